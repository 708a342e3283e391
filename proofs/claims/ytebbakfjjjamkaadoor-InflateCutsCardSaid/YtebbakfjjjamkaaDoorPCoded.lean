/- The project's own reader of blocks (package inflate): coded. -/
import Derived.Test.YtebbakfjjjamkaaDoorPStored
import Derived.StillTailTactics
namespace Go.Proofs.YtebbakfjjjamkaaDoor
open Go.RowKit
set_option linter.unusedVariables false
set_option maxRecDepth 100000

theorem takeS_num (zs : List Int) (p : Nat) (least : Int) (m : Nat) : (numS zs p least m).2 = (takeS zs p 0 m).2 ∧ ((numS zs p least m).2.2 = 0 → (numS zs p least m).1 = least + (takeS zs p 0 m).1) := by
  unfold numS takeS
  rw [if_pos rfl]
  by_cases h : p + m ≤ 8 * zs.length
  · rw [if_pos h, if_pos h]; exact ⟨rfl, fun _ => rfl⟩
  · rw [if_neg h, if_neg h]; exact ⟨rfl, fun h => absurd (show (2 : Int) = 0 from h) (by decide)⟩
theorem lenB_at : ∀ i : Fin 29, lenB (257 + i.val) = (if i.val < 8 then 3 + (i.val : Int) else if i.val < 28 then 3 + (4 + (i.val : Int) % 4) * 2 ^ (i.val / 4 - 1) else 258) ∧ (8 ≤ i.val → i.val < 28 → lenE (257 + i.val) = i.val / 4 - 1) := by decide +kernel
theorem disB_at : ∀ i : Fin 30, disB i.val = (if i.val < 4 then 1 + (i.val : Int) else 1 + (2 + (i.val : Int) % 2) * 2 ^ (i.val / 2 - 1)) ∧ (4 ≤ i.val → disE i.val = i.val / 2 - 1) := by decide +kernel
theorem len_eq (zs : List Int) (p i : Nat) (hi : i < 29) : (plenS zs p i).2 = (lenS zs p 0 (257 + i)).2 ∧ ((plenS zs p i).2.2 = 0 → (plenS zs p i).1 = (lenS zs p 0 (257 + i)).1) := by
  have hb := lenB_at ⟨i, hi⟩
  dsimp only at hb
  unfold plenS lenS
  by_cases h8 : i < 8
  · rw [if_pos h8, if_pos (by omega), hb.1, if_pos h8]; exact ⟨rfl, fun _ => rfl⟩
  rw [if_neg h8]
  by_cases h28 : i < 28
  · have h1 := takeS_num zs p (3 + (4 + (i : Int) % 4) * 2 ^ (i / 4 - 1)) (i / 4 - 1)
    rw [if_pos h28, if_neg (by omega), hb.2 (by omega) h28, hb.1, if_neg h8, if_pos h28]
    exact h1
  · rw [if_neg h28, if_pos (show i = 28 by omega), if_pos (by omega), hb.1, if_neg h8, if_neg h28]; exact ⟨rfl, fun _ => rfl⟩
theorem dis_eq (zs : List Int) (p i : Nat) (hi : i < 30) : (pdisT zs p i).2 = (disS zs p 0 i).2 ∧ ((pdisT zs p i).2.2 = 0 → (pdisT zs p i).1 = (disS zs p 0 i).1) := by
  have hb := disB_at ⟨i, hi⟩
  dsimp only at hb
  unfold pdisT disS
  by_cases h4 : i < 4
  · rw [if_pos h4, if_pos (by omega), hb.1, if_pos h4]; exact ⟨rfl, fun _ => rfl⟩
  · have h1 := takeS_num zs p (1 + (2 + (i : Int) % 2) * 2 ^ (i / 2 - 1)) (i / 2 - 1)
    rw [if_neg h4, if_pos hi, if_neg (by omega), hb.2 (by omega), hb.1, if_neg h4]
    exact h1
theorem pair_c {w : World} {k : Nat} {a b : Value} {t : TypeId} (h : w.heap[k]? = some (.cells #[a, b] t (0, 0))) : w.cell? ⟨k, 0, none⟩ = some a ∧ w.cell? ⟨k, 1, none⟩ = some b :=
  ⟨by rw [cell_of_row w k 0 _ t (0, 0) h]; rfl, by rw [cell_of_row w k 1 _ t (0, 0) h]; rfl⟩
/-- What follows a symbol of lengths: the document's own words, and again's. -/
def tailS (zs l d : List Int) (most F q s : Nat) (out : List Int) : Nat × Int × List Int :=
  if (285 : Int) < s then (q, 4, out)
  else
    let L := lenS zs q 0 s
    let c := symS zs d (codesS d) L.2.1 L.2.2
    if ¬ c.2.2 = 0 then (c.2.1, c.2.2, out)
    else if 29 < c.1 then (c.2.1, 4, out)
    else
      let D := disS zs c.2.1 0 c.1.toNat
      let x := copyR most D.1.toNat L.1.toNat (if D.2.2 = 0 ∧ (out.length : Int) < D.1 then 4 else D.2.2) out
      codedR zs l (codesS l) d (codesS d) most F D.2.1 x.1 x.2
theorem tail_again (zs l d : List Int) (most F q i : Nat) (out : List Int) (hlm : out.length ≤ most) :
    (¬ (againS zs d most q i out).2.1 = 0 → (tailS zs l d most F q (257 + i) out).2.1 = (againS zs d most q i out).2.1) ∧
    ((againS zs d most q i out).2.1 = 0 → tailS zs l d most F q (257 + i) out = codedR zs l (codesS l) d (codesS d) most F (againS zs d most q i out).1 0 (againS zs d most q i out).2.2) := by
  unfold againS tailS
  by_cases hi : i < 29
  · have hL := len_eq zs q i hi
    have hLv := plenS_v zs q i
    rw [if_neg (show ¬ (285 : Int) < ((257 + i : Nat) : Int) by omega)]
    obtain ⟨x, q1, e1, hl⟩ : ∃ x q1 e1, plenS zs q i = (x, q1, e1) := ⟨_, _, _, rfl⟩
    obtain ⟨x', q1', e1', hl'⟩ : ∃ x q1 e1, lenS zs q 0 (257 + i) = (x, q1, e1) := ⟨_, _, _, rfl⟩
    rw [hl, hl'] at hL
    rw [hl] at hLv
    dsimp only at hL hLv
    obtain ⟨h1, h2⟩ := hL
    cases h1
    rw [hl, hl']
    dsimp only
    by_cases he : e1 = 0
    · subst he
      rw [h2 rfl] at hLv ⊢
      rw [if_neg (by decide)]
      unfold symS pdisS
      rw [if_pos rfl]
      obtain ⟨s, q2, e2, hs⟩ : ∃ s q2 e2, symR zs d (codesS d) 15 1 0 q1 = (s, q2, e2) := ⟨_, _, _, rfl⟩
      have hsv := symR_v zs d (codesS d) 15 1 0 q1
      rw [hs] at hsv ⊢
      dsimp only at hsv ⊢
      by_cases he2 : e2 = 0
      · subst he2
        rw [if_neg (show ¬ ¬ (0 : Int) = 0 by decide), if_neg (show ¬ ¬ (0 : Int) = 0 by decide)]
        by_cases h29 : 29 < s
        · rw [if_pos h29]
          have e : pdisT zs q2 s.toNat = (0, q2, 4) := by unfold pdisT; rw [if_neg (by omega), if_neg (by omega)]
          rw [e]
          exact ⟨fun _ => rfl, fun h => absurd (show (4 : Int) = 0 from h) (by decide)⟩
        · rw [if_neg h29]
          have hD := dis_eq zs q2 s.toNat (by omega)
          obtain ⟨y, q3, e3, hd⟩ : ∃ y q3 e3, pdisT zs q2 s.toNat = (y, q3, e3) := ⟨_, _, _, rfl⟩
          obtain ⟨y', q3', e3', hd'⟩ : ∃ y q3 e3, disS zs q2 0 s.toNat = (y, q3, e3) := ⟨_, _, _, rfl⟩
          rw [hd, hd'] at hD
          dsimp only at hD
          obtain ⟨h3, h4⟩ := hD
          cases h3
          rw [hd, hd']
          dsimp only
          by_cases he3 : e3 = 0
          · subst he3
            rw [h4 rfl, if_neg (show ¬ ¬ (0 : Int) = 0 by decide)]
            by_cases hfar : (out.length : Int) < y'
            · rw [if_pos hfar, if_pos (show (0 : Int) = 0 ∧ (out.length : Int) < y' from ⟨rfl, hfar⟩), copyR_bad most y'.toNat x'.toNat 4 out (by decide)]
              dsimp only
              rw [codedR_bad zs l _ d _ most F q3 4 out (by decide)]
              exact ⟨fun _ => rfl, fun h => absurd (show (4 : Int) = 0 from h) (by decide)⟩
            · rw [if_neg hfar, if_neg (show ¬ ((0 : Int) = 0 ∧ (out.length : Int) < y') from fun h => hfar h.2)]
              by_cases hov : (most : Int) - out.length < x'
              · rw [if_pos hov]
                have h7 := copyR_over most y'.toNat x'.toNat out hlm (by omega)
                obtain ⟨a, b, hab⟩ : ∃ a b, copyR most y'.toNat x'.toNat 0 out = (a, b) := ⟨_, _, rfl⟩
                rw [hab] at h7 ⊢
                dsimp only at h7 ⊢
                subst h7
                rw [codedR_bad zs l _ d _ most F q3 7 b (by decide)]
                exact ⟨fun _ => rfl, fun h => absurd (show (7 : Int) = 0 from h) (by decide)⟩
              · rw [if_neg hov, copyR_all most y'.toNat x'.toNat out (by omega)]
                exact ⟨fun h => absurd rfl h, fun _ => rfl⟩
          · rw [if_pos he3, if_neg (show ¬ (e3 = 0 ∧ (out.length : Int) < y') from fun h => he3 h.1), copyR_bad most y'.toNat x'.toNat e3 out he3]
            dsimp only
            rw [codedR_bad zs l _ d _ most F q3 e3 out he3]
            exact ⟨fun _ => rfl, fun h => absurd h he3⟩
      · rw [if_pos he2, if_pos he2, if_pos he2]
        exact ⟨fun _ => rfl, fun h => absurd h he2⟩
    · rw [if_pos he]
      unfold symS
      rw [if_neg he]
      dsimp only
      rw [if_pos he]
      exact ⟨fun _ => rfl, fun h => absurd h he⟩
  · rw [if_pos (show (285 : Int) < ((257 + i : Nat) : Int) by omega)]
    have e : plenS zs q i = (0, q, 4) := by unfold plenS; rw [if_neg (by omega), if_neg (by omega), if_neg (by omega)]
    rw [e]
    exact ⟨fun _ => rfl, fun h => absurd (show (4 : Int) = 0 from h) (by decide)⟩

theorem numS_p (zs : List Int) (p : Nat) (least : Int) (m : Nat) (h : p ≤ 8 * zs.length) : (numS zs p least m).2.1 ≤ 8 * zs.length ∧ p ≤ (numS zs p least m).2.1 := by
  unfold numS
  split
  · dsimp only; omega
  · dsimp only; omega
theorem againS_p (zs d : List Int) (most p i : Nat) (out : List Int) (h : p ≤ 8 * zs.length) : (againS zs d most p i out).1 ≤ 8 * zs.length ∧ p ≤ (againS zs d most p i out).1 := by
  have h1 : (plenS zs p i).2.1 ≤ 8 * zs.length ∧ p ≤ (plenS zs p i).2.1 := by
    unfold plenS
    split
    · exact ⟨h, Nat.le_refl _⟩
    · split
      · exact numS_p _ _ _ _ h
      · split
        · exact ⟨h, Nat.le_refl _⟩
        · exact ⟨h, Nat.le_refl _⟩
  have h2 : (pdisS zs d (plenS zs p i).2.1).2.1 ≤ 8 * zs.length ∧ (plenS zs p i).2.1 ≤ (pdisS zs d (plenS zs p i).2.1).2.1 := by
    have h3 := symR_p zs d (codesS d) 15 1 0 (plenS zs p i).2.1 h1.1
    unfold pdisS
    split
    · exact h3
    · unfold pdisT
      split
      · exact h3
      · split
        · have h4 := numS_p zs (symR zs d (codesS d) 15 1 0 (plenS zs p i).2.1).2.1 (1 + (2 + ((symR zs d (codesS d) 15 1 0 (plenS zs p i).2.1).1.toNat : Int) % 2) * 2 ^ ((symR zs d (codesS d) 15 1 0 (plenS zs p i).2.1).1.toNat / 2 - 1)) ((symR zs d (codesS d) 15 1 0 (plenS zs p i).2.1).1.toNat / 2 - 1) h3.1
          exact ⟨h4.1, Nat.le_trans h3.2 h4.2⟩
        · exact h3
  unfold againS
  split
  · exact h1
  · split
    · exact ⟨h2.1, Nat.le_trans h1.2 h2.2⟩
    · split
      · exact ⟨h2.1, Nat.le_trans h1.2 h2.2⟩
      · split
        · exact ⟨h2.1, Nat.le_trans h1.2 h2.2⟩
        · exact ⟨h2.1, Nat.le_trans h1.2 h2.2⟩
theorem codedR_step (zs l d : List Int) (most F q : Nat) (out : List Int) (s : Int) (q1 : Nat) (e1 : Int) (h : symR zs l (codesS l) 15 1 0 q = (s, q1, e1)) (hs : 0 ≤ s) :
    codedR zs l (codesS l) d (codesS d) most (F + 1) q 0 out = if ¬ e1 = 0 ∨ s = 256 then (q1, e1, out) else if s < 256 then codedR zs l (codesS l) d (codesS d) most F q1 (putE most out 0) (putO most out 0 s) else tailS zs l d most F q1 s.toNat out := by
  rw [codedR, if_neg (by decide), h]
  dsimp only
  split
  · rfl
  · split
    · rfl
    · unfold tailS
      rw [show ((s.toNat : Nat) : Int) = s by omega]

set_option maxHeartbeats 2000000 in
theorem pcoded (kr kb kc n c p B most kp hl hd : Nat) (A : Option Addr) (v fx : Value) (out zs l d : List Int) (ts : Nat → Prop) (w : World) (h : RS w kr kb kc ts A n c zs p v out most fx) (hb : Byt w B A n c zs) (hB : ∀ i, i < B → ts i) (hn : n ≤ 1000000) (hm : most ≤ 100000000) (hp : p ≤ 8 * n)
    (hpr : w.heap[kp]? = some (.cells #[.pointer (some ⟨hl, 0, none⟩), .pointer (some ⟨hd, 0, none⟩)] 97 (0, 0))) (tp : ts kp) (hcl : CB w hl l) (tl : ts hl) (hcd : CB w hd d) (td : ts hd)
    (p' : Nat) (e' : Int) (out' : List Int) (hs : codedR zs l (codesS l) d (codesS d) most (8 * n + 1) p 0 out = (p', e', out')) :
    Calls Tryd.prog 49 #[.pointer (some ⟨kr, 0, none⟩), .pointer (some ⟨kp, 0, none⟩)] w fun r w' => r = .returned (.int .i64 e') ∧ Keeps ts w w' ∧ (e' = 0 → ∃ v', RS w' kr kb kc ts A n c zs p' v' out' most fx) := by
  have H := Lib.hid h
  have HLEN := Lib.hid hb.len
  have HBY := Lib.hid (fun W (hW : Keeps ts w W) => hb.keeps hW hB)
  have HP2 := Lib.hid (fun W (hW : Keeps ts w W) => (hW.block kp tp).trans hpr)
  have HCL := Lib.hid (fun W (hW : Keeps ts w W) => hcl.same (hW.block hl tl))
  have HCD := Lib.hid (fun W (hW : Keeps ts w W) => hcd.same (hW.block hd td))
  have HBB := Lib.hid hB
  have HSY := Lib.hid (fun W q v o (hW : Keeps ts w W) (hR : RS W kr kb kc ts A n c zs q v o most fx) s q1 e1 hsy => psym kb kc n c q B hl A zs l W hR.pb (HBY.out _ hW) (hR.ble hB).1 (hR.ble hB).2.1 hn (HCL.out _ hW) (fun e => h.tb' (e ▸ tl)) (fun e => h.tc (e ▸ tl)) s q1 e1 hsy)
  have HTL := Lib.hid tl
  have HTD := Lib.hid td
  have HS := Lib.hid hs
  have HP := Lib.hid hp
  clear h hb hB hpr tp hcl tl hcd td hs hp
  go_enter Tryd.func49, Tryd.ntmps49
  go_wp2_with fail
  go_loopg [] (8 * n + 1) (fun g wr => ∃ (q : Nat) (u : Value) (o : List Int), Hid (codedR zs l (codesS l) d (codesS d) most g q 0 o = (p', e', out')) ∧ Hid (8 * n < q + g ∧ q ≤ 8 * n) ∧ Hid (RS wr kr kb kc ts A n c zs q u o most fx) ∧ Hid (Keeps ts w wr))
  case atStart => exact ⟨p, v, out, HS, Lib.hid ⟨by omega, HP.out⟩, H, Lib.hid (Keeps.refl _ _)⟩
  case round =>
    obtain ⟨q, u, o, HC, HQ, HR, HK⟩ := hrel
    have hq := HQ.out
    obtain ⟨g, rfl⟩ : ∃ g, gk = g + 1 := ⟨gk - 1, by omega⟩
    obtain ⟨s, q1, e1, hsy⟩ : ∃ s q1 e1, symR zs l (codesS l) 15 1 0 q = (s, q1, e1) := ⟨_, _, _, rfl⟩
    have hsv := symR_v zs l (codesS l) 15 1 0 q
    rw [hsy] at hsv
    have hll := (HCL.out _ HK.out).len
    have hsp := symR_p zs l (codesS l) 15 1 0 q (by rw [HLEN.out]; exact hq.2)
    rw [hsy, HLEN.out] at hsp
    have hgood := fun (he : e1 = 0) => symR_good zs l (codesS l) 15 1 0 q s q1 (by rw [hsy, he])
    have hC := HC.out
    rw [codedR_step zs l d most g q o s q1 e1 hsy hsv.1] at hC
    have HSM := Lib.hid (HSY.out wr.drew q u o HK.out.drew HR.out.drew s q1 e1 hsy)
    have h0 := HR.out.c0
    obtain ⟨pc0, pc1⟩ := pair_c (HP2.out _ HK.out)
    dsimp only at hsv hsp
    clear hsy
    by_cases he : ¬ e1 = 0
    · rw [if_pos (.inl he)] at hC
      have hz : (e1 == 0) = false := beq_eq_false_iff_ne.2 he
      have HE := Lib.hid he
      cases hC
      clear he hgood
      go_wp2_with fail
      go_region_with (go_at_call 63; refine HSM.out.mono ?_; rintro r w2 ⟨rfl, hb2, ho2⟩; have HR2 := Lib.hid (HR.out.drew.read ho2 hb2); have HK2 := Lib.hid (HK.out.drew.trans (ho2.keeps HR.out.drew)); have hp2 := pair_c (HP2.out _ HK2.out); have pd0 := hp2.1; have pd1 := hp2.2; clear hp2 hb2 ho2)
      all_goals
        go_wp2_with fail
        go_ret
        exact ⟨rfl, HK2.out, fun h => absurd h HE.out⟩
    have he := Decidable.not_not.1 he
    have hgd := hgood he
    subst he
    clear hgood
    by_cases h256 : s = 256
    · rw [if_pos (.inr h256)] at hC
      subst h256
      cases hC
      go_wp2_with fail
      go_region_with (go_at_call 63; refine HSM.out.mono ?_; rintro r w2 ⟨rfl, hb2, ho2⟩; have HR2 := Lib.hid (HR.out.drew.read ho2 hb2); have HK2 := Lib.hid (HK.out.drew.trans (ho2.keeps HR.out.drew)); have hp2 := pair_c (HP2.out _ HK2.out); have pd0 := hp2.1; have pd1 := hp2.2; clear hp2 hb2 ho2)
      all_goals
        go_wp2_with fail
        go_ret
        exact ⟨rfl, HK2.out, ⟨_, HR2.out⟩⟩
    rw [if_neg (fun h => h.elim (fun h => h rfl) h256)] at hC
    have h256b : (s == 256) = false := beq_eq_false_iff_ne.2 h256
    by_cases hlt : s < 256
    · rw [if_pos hlt] at hC
      by_cases hfull : o.length = most
      · have e7 : putE most o 0 = 7 := by unfold putE; rw [if_pos ⟨rfl, by omega⟩]
        rw [e7, codedR_bad _ _ _ _ _ _ _ _ _ _ (by decide)] at hC
        cases hC
        clear h256
        go_wp2_with fail
        go_region_with (go_at_call 63; refine HSM.out.mono ?_; rintro r w2 ⟨rfl, hb2, ho2⟩; have HR2 := Lib.hid (HR.out.drew.read ho2 hb2); have HK2 := Lib.hid (HK.out.drew.trans (ho2.keeps HR.out.drew)); have hp2 := pair_c (HP2.out _ HK2.out); have pd0 := hp2.1; have pd1 := hp2.2; clear hp2 hb2 ho2)
        all_goals
          go_wp2_with (go_at_call 59; refine (pput_no kr kb kc n c _ most s A _ fx _ zs ts _ HR2.out hfull).mono ?_; rintro r w3 ⟨rfl, k3, rfl⟩)
          go_ret
          exact ⟨rfl, HK2.out.drewN _, fun h => absurd h (by decide)⟩
      · have e0 : putE most o 0 = 0 := by unfold putE; rw [if_neg (by have := HR.out.lm; omega)]
        have eo : putO most o 0 s = o ++ [s] := by unfold putO; rw [if_pos ⟨rfl, by have := HR.out.lm; omega⟩]
        rw [e0, eo] at hC
        have HC2 := Lib.hid hC
        have hsr : 0 ≤ s ∧ s < 256 := ⟨hsv.1, hlt⟩
        clear h256 hC
        go_wp2_with fail
        go_region_with (go_at_call 63; refine HSM.out.mono ?_; rintro r w2 ⟨rfl, hb2, ho2⟩; have HR2 := Lib.hid (HR.out.drew.read ho2 hb2); have HK2 := Lib.hid (HK.out.drew.trans (ho2.keeps HR.out.drew)); have hp2 := pair_c (HP2.out _ HK2.out); have pd0 := hp2.1; have pd1 := hp2.2; clear hp2 hb2 ho2)
        all_goals
          go_wp2_with (go_at_call 59; refine (pput_ok kr kb kc n c _ most s A _ fx _ zs ts _ HR2.out hfull hsr hm).mono ?_; rintro r w3 ⟨rfl, u3, hr3, hk3⟩; have HR3 := Lib.hid hr3; have HK3 := Lib.hid (HK2.out.trans hk3); clear hr3 hk3)
          go_roundg g
          case measure => omega
          case rel => exact ⟨q1, u3, _, HC2, Lib.hid ⟨by omega, hsp.1⟩, HR3, HK3⟩
    · rw [if_neg hlt] at hC
      obtain ⟨i, rfl⟩ : ∃ i : Nat, s = ((257 + i : Nat) : Int) := ⟨(s - 257).toNat, by omega⟩
      rw [Int.toNat_natCast] at hC
      have hta := tail_again zs l d most g q1 i o HR.out.lm
      obtain ⟨q2, e2, o2, hag⟩ : ∃ q2 e2 o2, againS zs d most q1 i o = (q2, e2, o2) := ⟨_, _, _, rfl⟩
      have hqp := againS_p zs d most q1 i o (by rw [HLEN.out]; exact hsp.1)
      rw [hag] at hta hqp
      rw [HLEN.out] at hqp
      dsimp only at hta hqp
      have hi100 : i ≤ 100 := by omega
      have HAG := Lib.hid (fun W (hW : Keeps ts w W) (hR : RS W kr kb kc ts A n c zs q1 u o most fx) => pagain kr kb kc n c q1 B most hd i A u fx o zs d ts W hR (HBY.out _ hW) HBB.out hn hm hi100 (HCD.out _ hW) HTD.out q2 e2 o2 hag)
      have ei : IntKind.i64.wrap (((257 + i : Nat) : Int) - 256) = ((1 + i : Nat) : Int) := by rw [show ((257 + i : Nat) : Int) - 256 = ((1 + i : Nat) : Int) by omega]; exact IntWalk.i64_in _ (by omega)
      have ei2 : IntKind.i64.wrap (((1 + i : Nat) : Int) - 1) = (i : Int) := by rw [show ((1 + i : Nat) : Int) - 1 = (i : Int) by omega]; exact IntWalk.i64_in _ (by omega)
      obtain ⟨s, hss⟩ : ∃ s, ((257 + i : Nat) : Int) = s := ⟨_, rfl⟩
      obtain ⟨s1, hs1⟩ : ∃ s, ((1 + i : Nat) : Int) = s := ⟨_, rfl⟩
      rw [hs1] at ei ei2
      rw [hss] at HSM h256 h256b hlt ei
      by_cases he2 : ¬ e2 = 0
      · have h1 := hta.1 he2
        rw [hC] at h1
        dsimp only at h1
        have HX := Lib.hid h1
        have HE := Lib.hid he2
        have hz : (e2 == 0) = false := beq_eq_false_iff_ne.2 he2
        clear hC hta he2 h1 hag h256 hsv hgd hqp hss hs1
        go_wp2_with fail
        go_region_with (go_at_call 63; refine HSM.out.mono ?_; rintro r w2 ⟨rfl, hb2, ho2⟩; have HR2 := Lib.hid (HR.out.drew.read ho2 hb2); have HK2 := Lib.hid (HK.out.drew.trans (ho2.keeps HR.out.drew)); have hp2 := pair_c (HP2.out _ HK2.out); have pd0 := hp2.1; have pd1 := hp2.2; clear hp2 hb2 ho2)
        all_goals
          go_wp2_with (go_at_call 64; refine (HAG.out _ HK2.out HR2.out).mono ?_; rintro r w3 ⟨rfl, hk3, hr3⟩; have HK3 := Lib.hid (HK2.out.trans hk3); clear hr3 hk3)
          go_ret
          exact ⟨by rw [HX.out]; rfl, HK3.out, fun h => absurd (HX.out.symm.trans h) HE.out⟩
      · have he2 := Decidable.not_not.1 he2
        subst he2
        have h1 := hta.2 rfl
        rw [h1] at hC
        have HC2 := Lib.hid hC
        have HQ2 : Hid (8 * n < q2 + g ∧ q2 ≤ 8 * n) := Lib.hid (by omega)
        clear hC hta h1 hag h256 hsv hgd hqp hss hs1
        go_wp2_with fail
        go_region_with (go_at_call 63; refine HSM.out.mono ?_; rintro r w2 ⟨rfl, hb2, ho2⟩; have HR2 := Lib.hid (HR.out.drew.read ho2 hb2); have HK2 := Lib.hid (HK.out.drew.trans (ho2.keeps HR.out.drew)); have hp2 := pair_c (HP2.out _ HK2.out); have pd0 := hp2.1; have pd1 := hp2.2; clear hp2 hb2 ho2)
        all_goals
          go_wp2_with (go_at_call 64; refine (HAG.out _ HK2.out HR2.out).mono ?_; rintro r w3 ⟨rfl, hk3, hr3⟩; obtain ⟨u3, hr3⟩ := hr3 (by first | rfl | trivial); have HR3 := Lib.hid hr3; have HK3 := Lib.hid (HK2.out.trans hk3); clear hr3 hk3)
          go_roundg g
          case measure => omega
          case rel => exact ⟨q2, u3, _, HC2, HQ2, HR3, HK3⟩
end Go.Proofs.YtebbakfjjjamkaaDoor
