/- The document's own codes (chapter 4): symbol. -/
import Derived.Test.YtginbilakdenmaaRef4Codes
namespace Go.Proofs.Ytginbilakdenmaa
open Go.RowKit
set_option linter.unusedVariables false
set_option maxRecDepth 100000

/-- The first symbol whose length is n and whose code is v. -/
def hitS (l cs : List Int) (n v : Int) : Option Nat := (List.range l.length).find? fun i => l.getD i 0 == n && cs.getD i 0 == v
def symR (zs l cs : List Int) : Nat → Int → Int → Nat → Int × Nat × Int
  | 0, _, _, p => (0, p, 4)
  | k + 1, n, v, p =>
    if p + 1 ≤ 8 * zs.length then
      match hitS l cs n (2 * v + bitZ zs p) with
      | some i => ((i : Int), p + 1, 0)
      | none => symR zs l cs k (n + 1) (2 * v + bitZ zs p) (p + 1)
    else (0, p, 2)
def symS (zs l cs : List Int) (p : Nat) (e : Int) : Int × Nat × Int := if e = 0 then symR zs l cs 15 1 0 p else (0, p, e)
theorem hitS_some (l cs : List Int) (n v : Int) (j : Nat) (hj : j < l.length) (h1 : l.getD j 0 = n) (h2 : cs.getD j 0 = v) (hno : ∀ i, i < j → ¬ (l.getD i 0 = n ∧ cs.getD i 0 = v)) : hitS l cs n v = some j := by
  unfold hitS
  refine List.find?_range_eq_some.2 ⟨by rw [h1, h2]; simp, List.mem_range.2 hj, fun i hi => ?_⟩
  have := hno i hi
  simp only [Bool.not_eq_true', Bool.and_eq_false_iff, beq_eq_false_iff_ne]
  by_cases h : l.getD i 0 = n
  · exact .inr fun h3 => this ⟨h, h3⟩
  · exact .inl h
theorem hitS_none (l cs : List Int) (n v : Int) (hno : ∀ i, i < l.length → ¬ (l.getD i 0 = n ∧ cs.getD i 0 = v)) : hitS l cs n v = none := by
  unfold hitS
  refine List.find?_range_eq_none.2 fun i hi => ?_
  have := hno i hi
  simp only [Bool.not_eq_true', Bool.and_eq_false_iff, beq_eq_false_iff_ne]
  by_cases h : l.getD i 0 = n
  · exact .inr fun h3 => this ⟨h, h3⟩
  · exact .inl h
theorem hitS_lt (l cs : List Int) (n v : Int) (j : Nat) (h : hitS l cs n v = some j) : j < l.length := by
  unfold hitS at h
  exact List.mem_range.1 (List.find?_range_eq_some.1 h).2.1
theorem symR_p (zs l cs : List Int) : ∀ (k : Nat) (n v : Int) (p : Nat), p ≤ 8 * zs.length → (symR zs l cs k n v p).2.1 ≤ 8 * zs.length ∧ p ≤ (symR zs l cs k n v p).2.1
  | 0, _, _, _, h => ⟨h, Nat.le_refl _⟩
  | k + 1, n, v, p, h => by
    rw [symR]
    split
    · split
      · exact ⟨by assumption, Nat.le_succ _⟩
      · have := symR_p zs l cs k (n + 1) (2 * v + bitZ zs p) (p + 1) (by assumption)
        omega
    · exact ⟨h, Nat.le_refl _⟩
theorem symR_v (zs l cs : List Int) : ∀ (k : Nat) (n v : Int) (p : Nat), 0 ≤ (symR zs l cs k n v p).1 ∧ (symR zs l cs k n v p).1 ≤ l.length
  | 0, _, _, _ => by simp [symR]
  | k + 1, n, v, p => by
    rw [symR]
    split
    · split
      · rename_i i hi
        have := hitS_lt l cs _ _ i hi
        exact ⟨by simp, by simp; omega⟩
      · exact symR_v zs l cs k (n + 1) (2 * v + bitZ zs p) (p + 1)
    · simp
theorem or_low (v x : Int) (v0 : 0 ≤ v) (v1 : v < 65536) (x0 : 0 ≤ x) (x1 : x ≤ 1) : bits .or .i64 (v * 2) x = 2 * v + x := by
  obtain ⟨a, rfl⟩ : ∃ a : Nat, v = a := ⟨v.toNat, by omega⟩
  obtain ⟨y, rfl⟩ : ∃ y : Nat, x = y := ⟨x.toNat, by omega⟩
  have f : ∀ x : Nat, x < 9223372036854775808 → (BitVec.ofInt 64 (x : Int)).toNat = x := fun x hx => by
    rw [BitVec.ofInt_natCast, BitVec.toNat_ofNat]; exact Nat.mod_eq_of_lt (by omega)
  rw [show (a : Int) * 2 = ((2 * a : Nat) : Int) by omega]
  show IntKind.i64.wrap ((BitVec.ofInt 64 ((2 * a : Nat) : Int) ||| BitVec.ofInt 64 (y : Int)).toNat : Int) = _
  rw [BitVec.toNat_or, f _ (by omega), f _ (by omega)]
  have h := Nat.two_pow_add_eq_or_of_lt (i := 1) (b := y) (by omega) a
  rw [show (2 : Nat) ^ 1 = 2 from rfl] at h
  rw [← h, IntWalk.i64_in _ (by omega)]
  omega

set_option maxRecDepth 100000 in
set_option maxHeartbeats 1000000 in
theorem sym_ok (g n c p B nl cl nc cc : Nat) (A Al Ac : Option Addr) (zs l cs : List Int) (w : World) (h : BS w g A n c p 0) (hb : Byt w B A n c zs) (hB : B ≤ g) (hn : n ≤ 100000000) (hp : p ≤ 8 * n)
    (hl : ∀ W, Only g w W → Nums W W.heap.size Al nl cl l) (hc : ∀ W, Only g w W → Nums W W.heap.size Ac nc cc cs) (hnl : nl ≤ 1000) (hcl : nl ≤ nc) (s : Int) (p' : Nat) (e' : Int) (hs : symR zs l cs 15 1 0 p = (s, p', e')) :
    Calls Try.prog 56 #[.pointer (some ⟨g, 0, none⟩), .slice Al nl cl, .slice Ac nc cc] w fun r w' => r = .returned (.int .i64 s) ∧ BS w' g A n c p' e' ∧ Only g w w' := by
  have H := Lib.hid h
  have HB := Lib.hid hb
  have HBG := Lib.hid hB
  have HL := Lib.hid hl
  have HC := Lib.hid hc
  have HS := Lib.hid hs
  have HP := Lib.hid hp
  have HZN := Lib.hid hb.len
  have HLN := Lib.hid (hl w (Only.refl _ _)).len
  have HCN := Lib.hid (hc w (Only.refl _ _)).len
  have HTK := Lib.hid (fun W q e v p' e' (hW : Only g w W) (h : BS W g A n c q e) (hq : q ≤ 8 * n) (hs : takeS zs q e 1 = (v, p', e')) => takeC g n c q B 1 e A zs W h (hb.only hW hB (Nat.le_of_lt H.out.lt)) hB hn (by omega) hq v p' e' hs)
  have HFL := Lib.hid (fun W q (hW : BS W g A n c q 0) => fail_first g n c q 4 A W hW)
  clear h hb hB hl hc hs hp
  go_enter Try.func56, Try.ntmps56
  go_wp2
  go_loopw [7, 8] (fun V L wr => ∃ (K q : Nat) (v : Int), 1 ≤ K ∧ K ≤ 16 ∧ L = .int .i64 K ∧ V = .int .i64 v ∧ Hid (0 ≤ v ∧ v < 2 ^ (K - 1)) ∧ Hid (q ≤ 8 * n) ∧ Hid (symR zs l cs (16 - K) (K : Nat) v q = (s, p', e')) ∧ Hid (BS wr g A n c q 0) ∧ Hid (Only g w wr)) (fun _ L _ => 16 - (intOf L).toNat)
  case atStart => exact ⟨1, p, 0, by omega, by omega, rfl, rfl, Lib.hid (by omega), HP, HS, H, Lib.hid (Only.refl _ _)⟩
  case round =>
    obtain ⟨K, q, v, hK1, hK, rfl, rfl, HV, HQ, HR, HBS, HON⟩ := hrel
    by_cases hK15 : K ≤ 15
    · by_cases hlt : q + 1 ≤ 8 * n
      · have htk := HTK.out _ q 0 (bitZ zs q) (q + 1) 0 HON.out HBS.out HQ.out (by unfold takeS; rw [if_pos rfl, if_pos (by rw [HZN.out]; exact hlt)]; simp [bitsZ])
        have HTK1 := Lib.hid htk
        have hR := HR.out
        rw [show 16 - K = (15 - K) + 1 by omega, symR, if_pos (by rw [HZN.out]; exact hlt)] at hR
        have hxb := bitZ_bd zs q
        have hv16 : v < 65536 ∧ 0 ≤ v := by have := pow_le16 (K - 1) (by omega); have := HV.out; omega
        have e1 : IntKind.i64.wrap (v * 2) = v * 2 := IntWalk.i64_in _ (by omega)
        obtain ⟨x, hx⟩ : ∃ x, bitZ zs q = x := ⟨_, rfl⟩
        rw [hx] at hR hxb
        have e2 : bits .or .i64 (v * 2) x = 2 * v + x := or_low v x hv16.2 hv16.1 hxb.1 hxb.2
        obtain ⟨y, hy⟩ : ∃ y, 2 * v + x = y := ⟨_, rfl⟩
        rw [hy] at hR e2
        have HY : Hid (0 ≤ y ∧ y < 2 ^ K) := Lib.hid (by
          have h1 := HV.out
          have e : (2 : Int) ^ K = 2 ^ (K - 1) * 2 := by rw [← Int.pow_succ]; congr 1; omega
          rw [e]; omega)
        have HR1 := Lib.hid hR
        rw [hx] at HTK1
        clear hR hx hy htk hxb hv16 HR
        go_wp2_with (go_at_call 44; refine HTK1.out.mono ?_; rintro r w2 ⟨rfl, hb2, ho2⟩; have k2 := hb2.c2; have HB2 := Lib.hid hb2; have HO2 := Lib.hid (HON.out.trans ho2); clear hb2 ho2)
        go_loop [9] (fun vi => ∃ j : Nat, j ≤ nl ∧ vi = .int .i64 j ∧ Hid (∀ i, i < j → ¬ (l.getD i 0 = (K : Int) ∧ cs.getD i 0 = y))) (fun vi => nl - (RowKit.intOf vi).toNat)
        case atStart => exact ⟨0, Nat.zero_le _, rfl, Lib.hid fun i hi => absurd hi (by omega)⟩
        case round =>
          obtain ⟨j, hj, rfl, HNO⟩ := hrel
          by_cases hjn : j < nl
          · obtain ⟨bl, ol, rfl, _, hlc⟩ := (HL.out _ HO2.out).cell (by omega)
            obtain ⟨bc, oc, rfl, _, hcc⟩ := (HC.out _ HO2.out).cell (by omega)
            have kl := hlc j hjn
            have kc := hcc j (by omega)
            obtain ⟨a, ha⟩ : ∃ a, l.getD j 0 = a := ⟨_, rfl⟩
            obtain ⟨b, hb⟩ : ∃ b, cs.getD j 0 = b := ⟨_, rfl⟩
            rw [ha] at kl
            rw [hb] at kc
            have HA := Lib.hid ha
            have HBB := Lib.hid hb
            clear hlc hcc ha hb
            by_cases haK : a = K
            · subst haK
              by_cases hby : b = y
              · subst hby
                have HIT : Hid (hitS l cs (K : Int) b = some j) := Lib.hid (hitS_some l cs _ _ j (by rw [HLN.out]; exact hjn) HA.out HBB.out HNO.out)
                have HR2 : Hid ((s, p', e') = ((j : Int), q + 1, 0)) := Lib.hid (by have := HR1.out; rw [HIT.out] at this; exact this.symm)
                go_wp2
                go_ret
                obtain ⟨rfl, h3⟩ := Prod.mk.inj HR2.out
                obtain ⟨rfl, rfl⟩ := Prod.mk.inj h3
                exact ⟨rfl, HB2.out, HO2.out⟩
              · have hbf : (b == y) = false := beq_eq_false_iff_ne.2 hby
                have HNE : Hid (¬ b = y) := Lib.hid hby
                clear hby
                go_wp2
                go_round
                · exact ⟨j + 1, by omega, by go_num, Lib.hid fun i hi => by
                    rcases Nat.lt_succ_iff_lt_or_eq.1 hi with h | h
                    · exact HNO.out i h
                    · subst h; intro hh; exact HNE.out (HBB.out.symm.trans hh.2)⟩
                · simp [intOf]; omega
            · have haf : (a == (K : Int)) = false := beq_eq_false_iff_ne.2 haK
              have HNE : Hid (¬ a = (K : Int)) := Lib.hid haK
              clear haK
              go_wp2
              go_round
              · exact ⟨j + 1, by omega, by go_num, Lib.hid fun i hi => by
                  rcases Nat.lt_succ_iff_lt_or_eq.1 hi with h | h
                  · exact HNO.out i h
                  · subst h; intro hh; exact HNE.out (HA.out.symm.trans hh.1)⟩
              · simp [intOf]; omega
          · obtain rfl : j = nl := by omega
            have HR2 : Hid (symR zs l cs (16 - (K + 1)) ((K + 1 : Nat) : Int) y (q + 1) = (s, p', e')) := Lib.hid (by
              have h1 := HR1.out
              rw [hitS_none l cs _ _ (fun i hi => HNO.out i (by rw [← HLN.out]; exact hi))] at h1
              rw [show 16 - (K + 1) = 15 - K by omega, Int.natCast_add]
              exact h1)
            go_wp2
            go_roundw
            case rel => exact ⟨K + 1, q + 1, y, by omega, by omega, by go_num, rfl, Lib.hid (by rw [Nat.add_sub_cancel]; exact HY.out), Lib.hid (by omega), HR2, HB2, HO2⟩
            case measure => simp [intOf]; omega
      · have htk := HTK.out _ q 0 0 q 2 HON.out HBS.out HQ.out (by unfold takeS; rw [if_pos rfl, if_neg (by rw [HZN.out]; exact hlt)])
        have HTK1 := Lib.hid htk
        have hR := HR.out
        rw [show 16 - K = (15 - K) + 1 by omega, symR, if_neg (by rw [HZN.out]; exact hlt)] at hR
        have HR1 := Lib.hid hR
        have hv16 : v < 65536 ∧ 0 ≤ v := by have := pow_le16 (K - 1) (by omega); have := HV.out; omega
        have e1 : IntKind.i64.wrap (v * 2) = v * 2 := IntWalk.i64_in _ (by omega)
        have e2 : bits .or .i64 (v * 2) 0 = 2 * v + 0 := or_low v 0 hv16.2 hv16.1 (by omega) (by omega)
        clear hR htk hv16 HR
        go_wp2_with (go_at_call 44; refine HTK1.out.mono ?_; rintro r w2 ⟨rfl, hb2, ho2⟩; have k2 := hb2.c2; have HB2 := Lib.hid hb2; have HO2 := Lib.hid (HON.out.trans ho2); clear hb2 ho2)
        go_ret
        obtain ⟨rfl, h3⟩ := Prod.mk.inj HR1.out
        obtain ⟨rfl, rfl⟩ := Prod.mk.inj h3
        exact ⟨rfl, HB2.out, HO2.out⟩
    · obtain rfl : K = 16 := by omega
      have HR1 : Hid ((0, q, 4) = (s, p', e')) := Lib.hid (by have := HR.out; exact this)
      go_wp2_with (go_at_call 48; refine (HFL.out _ _ HBS.out).mono ?_; rintro r w2 ⟨rfl, hb2, ho2⟩; have HB2 := Lib.hid hb2; have HO2 := Lib.hid (HON.out.trans ho2); clear hb2 ho2)
      go_ret
      obtain ⟨rfl, h3⟩ := Prod.mk.inj HR1.out
      obtain ⟨rfl, rfl⟩ := Prod.mk.inj h3
      exact ⟨rfl, HB2.out, HO2.out⟩
end Go.Proofs.Ytginbilakdenmaa
