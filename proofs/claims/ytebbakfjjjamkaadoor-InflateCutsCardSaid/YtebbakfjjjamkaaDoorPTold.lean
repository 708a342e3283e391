/- The project's own reader of blocks (package inflate): count, piece, row. -/
import Derived.Test.YtebbakfjjjamkaaDoorPCoded
import Derived.Test.YtebbakfjjjamkaaDoorRef4Dyn
import Derived.Laws.MakeOwn
namespace Go.Proofs.YtebbakfjjjamkaaDoor
open Go.RowKit
set_option linter.unusedVariables false
set_option maxRecDepth 100000

/-- What count answers. -/
def cntS (zs : List Int) (p : Nat) (least most : Int) : Int × Nat × Int := if most < (numS zs p least 5).1 then (0, (numS zs p least 5).2.1, 4) else numS zs p least 5
theorem pcount (kr kb kc n c p B most : Nat) (least mx : Int) (A : Option Addr) (v fx : Value) (out zs : List Int) (ts : Nat → Prop) (w : World) (h : RS w kr kb kc ts A n c zs p v out most fx) (hb : Byt w B A n c zs) (hB : ∀ i, i < B → ts i) (hn : n ≤ 1000000) (l0 : 0 ≤ least) (l1 : least ≤ 1000)
    (x : Int) (p' : Nat) (e' : Int) (hs : cntS zs p least mx = (x, p', e')) :
    Calls Tryd.prog 65 #[.pointer (some ⟨kr, 0, none⟩), .int .i64 least, .int .i64 mx] w fun r w' => r = .returned (.tuple #[.int .i64 x, .int .i64 e']) ∧ RS w' kr kb kc ts A n c zs p' v out most fx ∧ Only2 kb kc w w' := by
  obtain ⟨y, q, e, hnu⟩ : ∃ y q e, numS zs p least 5 = (y, q, e) := ⟨_, _, _, rfl⟩
  have HN := Lib.hid (pnumC kr kb kc n c p B most 5 least A v fx out zs ts w h hb hB hn (by omega) l0 (by omega) y q e hnu)
  unfold cntS at hs
  rw [hnu] at hs
  dsimp only at hs
  clear h hb hnu
  by_cases hlt : mx < y
  · rw [if_pos hlt] at hs
    cases hs
    go_enter Tryd.func65, Tryd.ntmps65
    go_wp2_with (go_at_call 74; refine HN.out.mono ?_; rintro r w2 ⟨rfl, hb2, ho2⟩; have HB2 := Lib.hid hb2; have HO2 := Lib.hid ho2; clear hb2 ho2)
    go_ret2
    exact ⟨rfl, HB2.out, HO2.out⟩
  · rw [if_neg hlt] at hs
    cases hs
    go_enter Tryd.func65, Tryd.ntmps65
    go_wp2_with (go_at_call 74; refine HN.out.mono ?_; rintro r w2 ⟨rfl, hb2, ho2⟩; have HB2 := Lib.hid hb2; have HO2 := Lib.hid ho2; clear hb2 ho2)
    go_ret2
    exact ⟨rfl, HB2.out, HO2.out⟩

/-- What piece answers: repS, but noughts beside an error. -/
def pieceOk (r : Int × Int × Nat × Int) (x y e : Int) : Prop := e = r.2.2.2 ∧ (e = 0 → x = r.1 ∧ y = r.2.1)
set_option maxHeartbeats 1000000 in
theorem ppiece (kr kb kc n c p B most hc nl cl : Nat) (A Al : Option Addr) (v fx : Value) (out zs l cd : List Int) (ts : Nat → Prop) (w : World) (h : RS w kr kb kc ts A n c zs p v out most fx) (hb : Byt w B A n c zs) (hB : ∀ i, i < B → ts i) (hn : n ≤ 1000000) (hcb : CB w hc cd) (h1 : hc ≠ kb) (h2 : hc ≠ kc)
    (hl : Nums w w.heap.size Al nl cl l) (hlk : ∀ b o, Al = some ⟨b, o, none⟩ → b ≠ kb ∧ b ≠ kc) (hnl : nl ≤ 1000) :
    Calls Tryd.prog 75 #[.pointer (some ⟨kr, 0, none⟩), .pointer (some ⟨hc, 0, none⟩), .slice Al nl cl] w fun r w' => ∃ x y e : Int, r = .returned (.tuple #[.int .i64 x, .int .i64 y, .int .i64 e]) ∧
      pieceOk (repS zs (symS zs cd (codesS cd) p 0).1 l (symS zs cd (codesS cd) p 0).2.1 (symS zs cd (codesS cd) p 0).2.2) x y e ∧
      PB w' kb kc A n c zs (repS zs (symS zs cd (codesS cd) p 0).1 l (symS zs cd (codesS cd) p 0).2.1 (symS zs cd (codesS cd) p 0).2.2).2.2.1 ∧ Only2 kb kc w w' := by
  have H := Lib.hid h
  have h0 := h.c0
  have hbl := h.ble hB
  have HBY := Lib.hid (fun W (hW : Only2 kb kc w W) => hb.only2 hW hbl.1 hbl.2.1 hbl.2.2.2)
  unfold symS
  rw [if_pos rfl]
  obtain ⟨s, q, e, hsy⟩ : ∃ s q e, symR zs cd (codesS cd) 15 1 0 p = (s, q, e) := ⟨_, _, _, rfl⟩
  have hsv := symR_v zs cd (codesS cd) 15 1 0 p
  rw [hsy] at hsv ⊢
  dsimp only at hsv ⊢
  have HSY := Lib.hid (psym kb kc n c p B hc A zs cd w h.pb hb hbl.1 hbl.2.1 hn hcb h1 h2 s q e hsy)
  have HN := Lib.hid (fun W (hW : Only2 kb kc w W) (hq : PB W kb kc A n c zs q) m (least x : Int) p' e' (hm : m ≤ 16) (l0 : 0 ≤ least) (l1 : least ≤ 1000000) hs => pnumC kr kb kc n c q B most m least A v fx out zs ts W (H.out.read hW hq) (HBY.out W hW) hB hn hm l0 l1 x p' e' hs)
  have HLEN := Lib.hid hl.len
  have HL := Lib.hid (fun (hpos : 0 < nl) W (hW : Only2 kb kc w W) => (show ∃ b o, Al = some ⟨b, o, none⟩ ∧ W.cell? ⟨b, o + (nl - 1), none⟩ = some (.int .i64 (l.getD (nl - 1) 0)) from by
    obtain ⟨b, o, e, hlt, hcl⟩ := hl.cell hpos
    have hk := hlk b o e
    exact ⟨b, o, e, (World.cell?_of_block (hW.block b hlt hk.1 hk.2)).trans (hcl (nl - 1) (by omega))⟩))
  have hcdl := hcb.len
  clear h hb hcb h1 h2 hl hlk hbl hsy
  unfold repS
  by_cases he : ¬ e = 0
  · rw [if_pos he]
    have hz : (e == 0) = false := beq_eq_false_iff_ne.2 he
    have HE := Lib.hid he
    clear he
    go_enter Tryd.func75, Tryd.ntmps75
    go_wp2_with (go_at_call 63; refine HSY.out.mono ?_; rintro r w2 ⟨rfl, hb2, ho2⟩; have HB2 := Lib.hid hb2; have HO2 := Lib.hid ho2; clear hb2 ho2)
    go_ret3
    exact ⟨0, 0, e, rfl, ⟨rfl, fun h => absurd h HE.out⟩, HB2.out, HO2.out⟩
  have he := Decidable.not_not.1 he
  subst he
  rw [if_neg (show ¬ ¬ (0 : Int) = 0 by decide)]
  by_cases h16 : s = 16
  · subst h16
    by_cases hem : l.length = 0
    · rw [if_pos ⟨rfl, hem⟩]
      rw [HLEN.out] at hem
      subst hem
      go_enter Tryd.func75, Tryd.ntmps75
      go_wp2_with (go_at_call 63; refine HSY.out.mono ?_; rintro r w2 ⟨rfl, hb2, ho2⟩; have HB2 := Lib.hid hb2; have HO2 := Lib.hid ho2; clear hb2 ho2)
      go_ret3
      exact ⟨0, 0, 4, rfl, ⟨rfl, fun h => absurd h (by decide)⟩, HB2.out, HO2.out⟩
    · rw [if_neg (fun h => hem h.2), if_pos rfl]
      rw [HLEN.out] at hem ⊢
      have hnz : ((nl : Int) == 0) = false := beq_eq_false_iff_ne.2 (by omega)
      have ei : IntKind.i64.wrap ((nl : Int) - 1) = ((nl - 1 : Nat) : Int) := by rw [show (nl : Int) - 1 = ((nl - 1 : Nat) : Int) by omega]; exact IntWalk.i64_in _ (by omega)
      have hil : ((nl - 1 : Nat) : Int) < nl := by omega
      have htn := takeS_num zs q 3 2
      obtain ⟨x, q2, e2, hnu⟩ : ∃ x q2 e2, numS zs q 3 2 = (x, q2, e2) := ⟨_, _, _, rfl⟩
      obtain ⟨x3, q3, e3, htk⟩ : ∃ x q2 e2, takeS zs q 0 2 = (x, q2, e2) := ⟨_, _, _, rfl⟩
      rw [hnu, htk] at htn
      rw [htk]
      dsimp only at htn ⊢
      obtain ⟨h1, h2⟩ := htn
      cases h1
      have HX := Lib.hid h2
      have HPOS := Lib.hid (show 0 < nl by omega)
      have HNU := Lib.hid hnu
      obtain ⟨z, hz⟩ : ∃ z, l.getD (nl - 1) 0 = z := ⟨_, rfl⟩
      rw [hz] at HL ⊢
      clear h2 hnu htk hem hz
      obtain ⟨b, o, rfl, _⟩ := HL.out HPOS.out w (Only2.refl _ _ _)
      go_enter Tryd.func75, Tryd.ntmps75
      go_wp2_with (first
        | (go_at_call 63; refine HSY.out.mono ?_; rintro r w2 ⟨rfl, hb2, ho2⟩; have HB2 := Lib.hid hb2; have HO2 := Lib.hid ho2; obtain ⟨b', o', hbo, hcl⟩ := HL.out HPOS.out w2 ho2; cases hbo; clear hb2 ho2)
        | (go_at_call 74; refine (HN.out _ HO2.out HB2.out 2 3 x q2 e2 (by omega) (by omega) (by omega) HNU.out).mono ?_; rintro r w3 ⟨rfl, hb3, ho3⟩; have HB3 := Lib.hid hb3; have HO3 := Lib.hid (HO2.out.trans ho3); clear hb3 ho3))
      go_ret3
      exact ⟨_, _, _, rfl, ⟨rfl, fun h => ⟨rfl, HX.out h⟩⟩, HB3.out.pb, HO3.out⟩
  rw [if_neg (fun h => h16 h.1), if_neg h16]
  have h16b : (s == 16) = false := beq_eq_false_iff_ne.2 h16
  by_cases h17 : s = 17
  · subst h17
    rw [if_pos rfl]
    have htn := takeS_num zs q 3 3
    obtain ⟨x, q2, e2, hnu⟩ : ∃ x q2 e2, numS zs q 3 3 = (x, q2, e2) := ⟨_, _, _, rfl⟩
    obtain ⟨x3, q3, e3, htk⟩ : ∃ x q2 e2, takeS zs q 0 3 = (x, q2, e2) := ⟨_, _, _, rfl⟩
    rw [hnu, htk] at htn
    rw [htk]
    dsimp only at htn ⊢
    obtain ⟨h1, h2⟩ := htn
    cases h1
    have HX := Lib.hid h2
    have HNU := Lib.hid hnu
    clear h2 hnu htk h16
    go_enter Tryd.func75, Tryd.ntmps75
    go_wp2_with (first
      | (go_at_call 63; refine HSY.out.mono ?_; rintro r w2 ⟨rfl, hb2, ho2⟩; have HB2 := Lib.hid hb2; have HO2 := Lib.hid ho2; clear hb2 ho2)
      | (go_at_call 74; refine (HN.out _ HO2.out HB2.out 3 3 x q2 e2 (by omega) (by omega) (by omega) HNU.out).mono ?_; rintro r w3 ⟨rfl, hb3, ho3⟩; have HB3 := Lib.hid hb3; have HO3 := Lib.hid (HO2.out.trans ho3); clear hb3 ho3))
    go_ret3
    exact ⟨_, _, _, rfl, ⟨rfl, fun h => ⟨rfl, HX.out h⟩⟩, HB3.out.pb, HO3.out⟩
  rw [if_neg h17]
  have h17b : (s == 17) = false := beq_eq_false_iff_ne.2 h17
  by_cases h18 : s = 18
  · subst h18
    rw [if_pos rfl]
    have htn := takeS_num zs q 11 7
    obtain ⟨x, q2, e2, hnu⟩ : ∃ x q2 e2, numS zs q 11 7 = (x, q2, e2) := ⟨_, _, _, rfl⟩
    obtain ⟨x3, q3, e3, htk⟩ : ∃ x q2 e2, takeS zs q 0 7 = (x, q2, e2) := ⟨_, _, _, rfl⟩
    rw [hnu, htk] at htn
    rw [htk]
    dsimp only at htn ⊢
    obtain ⟨h1, h2⟩ := htn
    cases h1
    have HX := Lib.hid h2
    have HNU := Lib.hid hnu
    clear h2 hnu htk h16 h17
    go_enter Tryd.func75, Tryd.ntmps75
    go_wp2_with (first
      | (go_at_call 63; refine HSY.out.mono ?_; rintro r w2 ⟨rfl, hb2, ho2⟩; have HB2 := Lib.hid hb2; have HO2 := Lib.hid ho2; clear hb2 ho2)
      | (go_at_call 74; refine (HN.out _ HO2.out HB2.out 7 11 x q2 e2 (by omega) (by omega) (by omega) HNU.out).mono ?_; rintro r w3 ⟨rfl, hb3, ho3⟩; have HB3 := Lib.hid hb3; have HO3 := Lib.hid (HO2.out.trans ho3); clear hb3 ho3))
    go_ret3
    exact ⟨_, _, _, rfl, ⟨rfl, fun h => ⟨rfl, HX.out h⟩⟩, HB3.out.pb, HO3.out⟩
  rw [if_neg h18]
  have h18b : (s == 18) = false := beq_eq_false_iff_ne.2 h18
  clear h16 h17 h18
  go_enter Tryd.func75, Tryd.ntmps75
  go_wp2_with (go_at_call 63; refine HSY.out.mono ?_; rintro r w2 ⟨rfl, hb2, ho2⟩; have HB2 := Lib.hid hb2; have HO2 := Lib.hid ho2; clear hb2 ho2)
  go_ret3
  exact ⟨_, _, _, rfl, ⟨rfl, fun h => ⟨rfl, rfl⟩⟩, HB2.out, HO2.out⟩
end Go.Proofs.YtebbakfjjjamkaaDoor
