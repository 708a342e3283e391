/- LexKnown: chapter 11's example. A closed statement. -/
import Derived.Test.YtnlpdnimfaipmaaKn20
import Derived.Test.YtnlpdnimfaipmaaKn26
namespace Go.Proofs.Ytnlpdnimfaipmaa
open Go.ChangeShapes Go.WideShapes Go.ChangeAt Go.RowKit Go.Deep
set_option linter.unusedVariables false
set_option maxRecDepth 100000
abbrev zKW : List Int := [47, 65, 35, 52, 50, 32, 40, 120, 40, 121, 41, 92, 49, 48, 49, 41, 60, 52, 32, 49, 62, 45, 46, 53, 32, 111, 98, 106]
def tkK : Nat → Tk
  | 0 => ⟨0, 4, 0, [65, 66], 5⟩
  | 1 => ⟨0, 3, 0, [120, 40, 121, 41, 65], 16⟩
  | 2 => ⟨0, 3, 0, [65], 21⟩
  | 3 => ⟨0, 2, -50000, [], 24⟩
  | 4 => ⟨0, 9, 0, [111, 98, 106], 28⟩
  | _ => ⟨0, 0, 0, [], 28⟩
def atK : Nat → Nat
  | 0 => 0
  | 1 => 6
  | 2 => 16
  | 3 => 21
  | 4 => 25
  | _ => 28
def poK : Nat → Nat
  | 0 => 0
  | i + 1 => (tkK i).q
theorem kn_tok : ∀ i, i < 6 → tokT zKW (poK i) = tkK i ∧ blkP zKW (poK i) = atK i
  | 0, _ => ⟨by kernel_rfl, by kernel_rfl⟩
  | 1, _ => ⟨by kernel_rfl, by kernel_rfl⟩
  | 2, _ => ⟨by kernel_rfl, by kernel_rfl⟩
  | 3, _ => ⟨by kernel_rfl, by kernel_rfl⟩
  | 4, _ => ⟨by kernel_rfl, by kernel_rfl⟩
  | 5, _ => ⟨by kernel_rfl, by kernel_rfl⟩
  | i + 6, h => absurd h (by omega)
theorem tkK_e : ∀ i, (tkK i).e = 0
  | 0 => rfl
  | 1 => rfl
  | 2 => rfl
  | 3 => rfl
  | 4 => rfl
  | i + 5 => rfl
theorem tkK_len : ∀ i, (tkK i).b.length ≤ 5
  | 0 => by decide
  | 1 => by decide
  | 2 => by decide
  | 3 => by decide
  | 4 => by decide
  | i + 5 => by simp [tkK]
def encT (t : Tk) (a : Nat) (u : Value) : List Value := [.int .i64 t.k, .int .i64 a, .int .i64 t.v, u]
def flatT : Nat → List Value → List Value
  | _, [] => []
  | i, u :: us => encT (tkK i) (atK i) u ++ flatT (i + 1) us
theorem flatT_snoc : ∀ (us : List Value) (i : Nat) (u : Value), flatT i (us ++ [u]) = flatT i us ++ encT (tkK (i + us.length)) (atK (i + us.length)) u
  | [], i, u => by simp [flatT]
  | x :: us, i, u => by
    rw [List.cons_append, flatT, flatT, flatT_snoc us (i + 1) u, List.length_cons, show i + 1 + us.length = i + (us.length + 1) by omega, List.append_assoc]
theorem infoT : (Try.prog.info? 57).map (fun i => (i.zero, i.size, i.bytes)) = some (some (.agg #[.int .i64 0, .int .i64 0, .int .i64 0, .slice none 0 0]), 4, 48) := by kernel_rfl
/-- The row of so many tokens, behind block g. -/
structure KT (W : World) (g i : Nat) (v : Value) (us : List Value) : Prop where
  len : us.length = i
  row : W.ownsRow (g + 1) 57 4 v i (flatT 0 us)
  el : ∀ (j : Nat) (u : Value), us[j]? = some u → ∃ A m c, u = .slice A m c ∧ BytS W (fun b => g < b ∧ b < W.heap.size ∧ v.ownBlock ≠ some b) A m c (tkK j).b
section
variable {W W' : World} {g i : Nat} {v : Value} {us : List Value}
theorem KT.keep (h : KT W g i v us) (hb : ∀ b, g < b → b < W.heap.size → W'.heap[b]? = W.heap[b]?) (hs : W.heap.size ≤ W'.heap.size) : KT W' g i v us :=
  ⟨h.len, row_sameN h.row (fun b hb' => hb b (row_ltN h.row b hb').2 (row_ltN h.row b hb').1), fun j u hu => by
    obtain ⟨A, m, c, e, hB⟩ := h.el j u hu
    exact ⟨A, m, c, e, hB.keep (fun b hb' => hb b hb'.1 hb'.2.1) (fun b hb' => ⟨hb'.1, Nat.lt_of_lt_of_le hb'.2.1 hs, hb'.2.2⟩)⟩⟩
theorem KT.app (h : KT W g i v us) (A : Option Addr) (m c : Nat) (hB : BytS W (fun b => g < b ∧ b < W.heap.size ∧ v.ownBlock ≠ some b) A m c (tkK i).b) (hi : i ≤ 1000) (hg : g + 1 ≤ W.heap.size) :
    ∃ A' c' W', (Builtin.append_ #[55, 55] 55 #[v, .slice (some ⟨W.heap.size, 0, none⟩) 1 1]).run Try.prog (W.alloc (.cells #[.int .i64 (tkK i).k, .int .i64 (atK i), .int .i64 (tkK i).v, .slice A m c] 57)) = .ok (.slice A' (i + 1) c') W' ∧ KT W' g (i + 1) (.slice A' (i + 1) c') (us ++ [.slice A m c]) ∧ Below (g + 1) W W' := by
  obtain ⟨i0, hi0, hz0, hz1, hz2⟩ := info_parts infoT
  have hb1 : Below W.heap.size W (W.alloc (.cells #[.int .i64 (tkK i).k, .int .i64 (atK i), .int .i64 (tkK i).v, .slice A m c] 57)) := (Below.refl _ _).alloc (Nat.le_refl _) _
  have hnw := heap_alloc_new W (.cells #[.int .i64 (tkK i).k, .int .i64 (atK i), .int .i64 (tkK i).v, .slice A m c] 57)
  have h1 := row_sameN h.row (fun b hb => hb1.block b (row_ltN h.row b hb).1)
  obtain ⟨v', w', hr, ho, hgr, _, hat⟩ := run_append_own_at (P := Try.prog) _ (g + 1) 55 55 57 i0 _ 4 48 Try.underlying55 hi0 hz0 hz1 hz2 rfl (by omega) v i _ h1 ⟨W.heap.size, 0, none⟩ 1 1 (encT (tkK i) (atK i) (.slice A m c)) rfl (fun j u hj => by
    have e : (⟨W.heap.size, 0, none⟩ : Addr).add j = ⟨W.heap.size, 0 + j, none⟩ := by unfold Addr.add; split <;> simp_all
    rw [e, cell_of_row _ _ _ _ _ (0, 0) hnw, Nat.zero_add]
    rw [← hj]; simp [encT]) (by simp [encT, Value.oneCell']) (by simp only [maxLen]; omega) (by omega) (Nat.le_trans hg hb1.size)
  obtain ⟨A', c', rfl⟩ := own_slice ho
  have hkx : KeepX v W (.slice A' (i + 1) c') w' := (KeepX.ofBelow hb1).trans ⟨hgr.os, hgr.tape, hgr.output, hgr.size, fun k hk hne => hgr.block k hk (fun e => hne e.symm), fun b hb => by
    rcases hat with h2 | h2
    · exact .inl (by rw [← h2, hb])
    · rw [hb] at h2; injection h2 with h2; exact .inr (by omega)⟩
  have key : ∀ (A2 : Option Addr) (m2 c2 : Nat) (zs : List Int), BytS W (fun b => g < b ∧ b < W.heap.size ∧ v.ownBlock ≠ some b) A2 m2 c2 zs → BytS w' (fun b => g < b ∧ b < w'.heap.size ∧ (Value.slice A' (i + 1) c').ownBlock ≠ some b) A2 m2 c2 zs := fun A2 m2 c2 zs hB2 =>
    hB2.keep (fun b hb => hkx.block b hb.2.1 hb.2.2) (fun b hb => ⟨hb.1, Nat.lt_of_lt_of_le hb.2.1 hkx.size, fun e => by
      rcases hkx.own b e with h2 | h2
      · exact hb.2.2 h2
      · omega⟩)
  refine ⟨A', c', w', hr, ⟨by rw [List.length_append, h.len]; rfl, by rw [flatT_snoc, h.len, Nat.zero_add]; exact ho, fun j u hu => ?_⟩, hkx.below hg (fun b hb => (row_ltN h.row b hb).2)⟩
  rcases Nat.lt_or_ge j us.length with hj | hj
  · rw [List.getElem?_append_left hj] at hu
    obtain ⟨A2, m2, c2, e, hB2⟩ := h.el j u hu
    exact ⟨A2, m2, c2, e, key _ _ _ _ hB2⟩
  · rw [List.getElem?_append_right hj] at hu
    obtain rfl : j = i := by
      have h5 := (List.getElem?_eq_some_iff.1 hu).1
      rw [List.length_singleton] at h5
      have h6 := h.len
      omega
    rw [h.len, Nat.sub_self] at hu
    injection hu with hu
    exact ⟨A, m, c, hu.symm, key _ _ _ _ hB⟩
end
theorem bytS_byt {W : World} {S : Nat → Prop} {A : Option Addr} {m c : Nat} {zs : List Int} (h : BytS W S A m c zs) (hS : ∀ b, S b → b < W.heap.size) : Byt W W.heap.size A m c zs := by
  obtain ⟨h1, h2, h3, h4⟩ := h
  refine ⟨h1, h2.1, h3, fun h0 => ?_⟩
  obtain ⟨b, o, e, hb, hc⟩ := h4 h0
  exact ⟨b, o, e, hS b hb, hc⟩
set_option maxHeartbeats 8000000 in
theorem lknown_walk (w : World) : Calls Try.prog 6 #[] w fun e w' => e = .returned (.bool true) ∧ Below w.heap.size w w' := by
  have HAW := Lib.hid (awake_any w)
  have HT := Lib.hid (fun i (hi : i < 6) W h g A c (x : LS w W h g A 28 c (poK i) zKW) => ls_tok (by omega) x (kn_tok i hi).1 (kn_tok i hi).2)
  have kc := fun (w : World) (C : Array Value) (n c : Nat) => Lib.run_convert_bytes_const (P := Try.prog) w 23 5 C n c Try.underlying23 Try.underlying5
  go_enter Try.func6, Try.ntmps6
  go_upto_region 3 with (first
    | (go_at_call 36; refine HAW.out.mono ?_; (rintro e w1 ⟨rfl, hb1⟩); have HB1 := Lib.hid hb1; clear hb1))
  have hby := (byt_lit w1 (28, 29) zKW (by decide) 28 rfl _ rfl)
  have hbl := (Below.refl w1.heap.size w1).alloc (Nat.le_refl _) (.cells (List.map (Value.int .u8) zKW).toArray 5 (28, 29))
  obtain ⟨w2, hw2⟩ : ∃ w2, w1.alloc (.cells (List.map (Value.int .u8) zKW).toArray 5 (28, 29)) = w2 := ⟨_, rfl⟩
  have hs2 : w2.heap.size = w1.heap.size + 1 := by rw [← hw2]; simp
  rw [hw2, ← hs2] at hby
  rw [hw2] at hbl
  have HNEW := Lib.hid (ls_new w w2 _ 28 28 zKW hby (HB1.out.trans (hbl.mono HB1.out.size)))
  have HW2 := Lib.hid hw2
  clear hby hbl hs2 hw2
  go_upto_region 4 with (first
    | (go_at_call 37; (try simp only [List.map] at HW2); rw [show (w1.alloc _) = w2 from HW2.out]; refine HNEW.out.mono ?_; (rintro r w3 ⟨rfl, hl3, hs3, hb3⟩); have HL3 := Lib.hid hl3; have HS3 := Lib.hid hs3; clear hl3 hs3 hb3))
  obtain ⟨h, hh⟩ : ∃ h, w2.heap.size + 1 = h := ⟨_, rfl⟩
  obtain ⟨g, hg⟩ : ∃ g, w2.heap.size = g := ⟨_, rfl⟩
  have HGH := Lib.hid (show g + 1 = h by omega)
  rw [hh, hg] at HL3
  rw [hh]
  clear HS3 HNEW HW2 hh hg kc HAW HB1
  go_upto_region 6 with fail
  go_loopw [2, 3] (fun v s3 wr => ∃ (i : Nat) (us : List Value) (A' : Option Addr) (c' cc : Nat) (A : Option Addr), s3 = .int .i64 i ∧ i ≤ 6 ∧ v = .slice A' i c' ∧ Hid (LS w wr h g A 28 cc (poK i) zKW) ∧ Hid (KT wr h i v us)) (fun _ s3 _ => 6 - (intOf s3).toNat)
  case atStart => exact ⟨0, [], none, 0, _, _, rfl, by omega, rfl, HL3, Lib.hid ⟨rfl, ⟨rfl, .inl ⟨rfl, rfl⟩⟩, fun j u hu => by simp at hu⟩⟩
  case round =>
    obtain ⟨i, us, A', c', cc, A, rfl, hi6, rfl, HL, HK⟩ := hrel
    by_cases hi : i < 6
    · have gi : (i : Int) < 6 := by omega
      have hte := tkK_e i
      have htl := tkK_len i
      have htk := HT.out i hi wr h g A cc HL.out
      have hap := fun (W : World) (hW : KT W h i (.slice A' i c') us) A m c hB hg => hW.app A m c hB (by omega) hg
      have hpo : poK (i + 1) = (tkK i).q := rfl
      obtain ⟨T, hT⟩ : ∃ T, tkK i = T := ⟨_, rfl⟩
      obtain ⟨a, ha⟩ : ∃ a, atK i = a := ⟨_, rfl⟩
      simp only [hT, ha] at htk hap
      rw [hT] at hte htl hpo
      obtain ⟨e, k, x, b, q⟩ := T
      dsimp only at hte htl hpo htk hap
      subst hte
      have HTK := Lib.hid htk
      have HAP := Lib.hid hap
      have HPO := Lib.hid hpo
      have HTL := Lib.hid htl
      clear htk hap hpo htl hT ha
      go_upto_region 9 with (first
        | (go_at_call 38; refine HTK.out.mono ?_; (rintro r w4 ⟨A1, m1, c1, rfl, hl4, ho4, hy4, hf4⟩); (try dsimp only at hl4 hy4); have HL4 := Lib.hid hl4; have HO4 := Lib.hid ho4; have HY4 := Lib.hid hy4; have HF4 := Lib.hid hf4; clear hl4 ho4 hy4 hf4))
      have hbx := Bx.new w4 57 (.int .i64 k) (.int .i64 a) (.int .i64 x) (.slice A1 m1 c1)
      have hb5 := (Below.refl w4.heap.size w4).alloc (Nat.le_refl _) (.cells #[.int .i64 k, .int .i64 a, .int .i64 x, .slice A1 m1 c1] 57)
      obtain ⟨w5, hw5⟩ : ∃ w5, w4.alloc (.cells #[.int .i64 k, .int .i64 a, .int .i64 x, .slice A1 m1 c1] 57) = w5 := ⟨_, rfl⟩
      rw [hw5] at hbx hb5
      rw [hw5]
      have t0 := hbx.c0
      have t1 := hbx.c1
      have t2 := hbx.c2
      have t3 := hbx.c3
      have hgr : h < wr.heap.size := HL.out.lx.lt
      have hgh := HGH.out
      have hsr : wr.heap.size ≤ w5.heap.size := Nat.le_trans HO4.out.size hb5.size
      have HL5 := Lib.hid (HL4.out.low hb5)
      have hk5 : KT w5 h i (.slice A' i c') us := HK.out.keep (fun b hgb hb => (hb5.block b (Nat.lt_of_lt_of_le hb HO4.out.size)).trans (HO4.out.block b hb (by omega))) hsr
      have hbs : BytS w5 (fun y => h < y ∧ y < w5.heap.size ∧ (Value.slice A' i c').ownBlock ≠ some y) A1 m1 c1 b := by
        have hy := HY4.out.below hb5 (Nat.le_refl _)
        refine ⟨hy.len, ⟨hy.cap, by have := hy.len; have := HTL.out; omega⟩, hy.rng, fun h0 => ?_⟩
        obtain ⟨y, o, e, hlt, hc⟩ := hy.cell h0
        have hfr := HF4.out h0 y o e
        exact ⟨y, o, e, ⟨by omega, Nat.lt_of_lt_of_le hlt hb5.size, fun e2 => by have := (row_ltN HK.out.row y e2).1; omega⟩, hc⟩
      have hap := HAP.out w5 hk5 A1 m1 c1 hbs (by omega)
      have HAP2 := Lib.hid hap
      clear hap hbs hk5 hbx hb5 hw5 hgr hsr hgh
      go_wp2_with (first
        | (at_builtin; obtain ⟨A6, c6, w6, hrun, hk6, hb6⟩ := HAP2.out; refine Lib.wpList_append_run_sl _ rfl (.tmp 22) (.tmp 24) 55 rfl _ _ rfl rfl hrun ?_; clear hrun; have HK6 := Lib.hid hk6; have HB6 := Lib.hid hb6; clear hk6 hb6))
      go_roundw
      case rel => exact ⟨i + 1, _, A6, c6, cc, A, by go_num, by omega, rfl, Lib.hid (by
        rw [HPO.out]
        have x := HL5.out
        have hgh := HGH.out
        exact ⟨x.lx.below HB6.out (Nat.lt_succ_self _) (by omega), x.bt.below HB6.out (by omega), x.lo, x.bl.trans (HB6.out.mono (by have := x.lo; omega))⟩), HK6⟩
      case measure => simp [intOf]; omega
    · obtain rfl : i = 6 := by omega
      obtain ⟨u0, u1, u2, u3, u4, u5, rfl⟩ : ∃ u0 u1 u2 u3 u4 u5, us = [u0, u1, u2, u3, u4, u5] := by
        have := HK.out.len
        match us, this with
        | [u0, u1, u2, u3, u4, u5], _ => exact ⟨u0, u1, u2, u3, u4, u5, rfl⟩
      obtain ⟨A0, m0, c0, rfl, B0⟩ := HK.out.el 0 _ rfl
      obtain ⟨A1, m1, c1, rfl, B1⟩ := HK.out.el 1 _ rfl
      obtain ⟨A2, m2, c2, rfl, B2⟩ := HK.out.el 2 _ rfl
      obtain ⟨A3, m3, c3, rfl, B3⟩ := HK.out.el 3 _ rfl
      obtain ⟨A4, m4, c4, rfl, B4⟩ := HK.out.el 4 _ rfl
      have v0 := conv_str (bytS_byt B0 (fun _ h => h.2.1)) ⟨#[65, 66]⟩ rfl
      have v1 := conv_str (bytS_byt B1 (fun _ h => h.2.1)) ⟨#[120, 40, 121, 41, 65]⟩ rfl
      have v2 := conv_str (bytS_byt B2 (fun _ h => h.2.1)) ⟨#[65]⟩ rfl
      have v4 := conv_str (bytS_byt B4 (fun _ h => h.2.1)) ⟨#[111, 98, 106]⟩ rfl
      obtain ⟨AR, cR, eR, -, hR⟩ := row_shapeN HK.out.row
      injection eR with eR1 eR2 eR3
      subst eR1 eR3
      obtain ⟨gr, rfl, -, -, hcl⟩ := hR (by decide)
      have q03 : wr.cell? ⟨gr, 3, none⟩ = some (.slice A0 m0 c0) := hcl 3 _ rfl
      have q10 : wr.cell? ⟨gr, 4, none⟩ = some (.int .i64 3) := hcl 4 _ rfl
      have q13 : wr.cell? ⟨gr, 4 + 3, none⟩ = some (.slice A1 m1 c1) := hcl 7 _ rfl
      have q20 : wr.cell? ⟨gr, 8, none⟩ = some (.int .i64 3) := hcl 8 _ rfl
      have q23 : wr.cell? ⟨gr, 8 + 3, none⟩ = some (.slice A2 m2 c2) := hcl 11 _ rfl
      have q30 : wr.cell? ⟨gr, 12, none⟩ = some (.int .i64 2) := hcl 12 _ rfl
      have q32 : wr.cell? ⟨gr, 12 + 2, none⟩ = some (.int .i64 (-50000)) := hcl 14 _ rfl
      have q40 : wr.cell? ⟨gr, 16, none⟩ = some (.int .i64 9) := hcl 16 _ rfl
      have q43 : wr.cell? ⟨gr, 16 + 3, none⟩ = some (.slice A4 m4 c4) := hcl 19 _ rfl
      have q50 : wr.cell? ⟨gr, 20, none⟩ = some (.int .i64 0) := hcl 20 _ rfl
      have HBL := Lib.hid HL.out.bl
      clear B0 B1 B2 B3 B4 hR hcl HK HL HT
      go_wp2_with fail
      go_ret
      exact ⟨rfl, HBL.out⟩
set_option maxRecDepth 100000 in
theorem lknown_lifted (os : Os) (started : os.Started) (H : Type) (enc : TypeId × Value → H) :
    ReturnsInHanded {} Try.checked os 6 .any (Rows.lexKnownSpec.pre6 enc Try.prog Try.f6 Rows.lexKnownRow.domain false) (Rows.lexKnownSpec.post enc Try.prog Try.f6 false true false false) := by
  refine returnsInHanded_of_change (C := Try.checked) own started (by kernel_rfl) Try.func6
    (ChangeSpec.witness6 (enc := enc) (C := Try.checked) false ⟨#[], #[], []⟩ 8 (by kernel_rfl) (by kernel_rfl) (by kernel_rfl) (by kernel_rfl)) ?_
  intro W base args ds gs before hval0 hW hcnd _
  have hval : ∀ (j : Nat) t v, Try.f6.params[j]? = some t → args[j]? = some v → Value.okWide Try.prog W .any base t v := hval0
  have hW' := hW
  obtain ⟨p, q, hA0, hV, rfl, hfz, hnd⟩ := hW
  have hA : DataW.TrodAll enc Try.prog W 0 (fun _ => true) true Try.f6.params.toList args.toList ds p := hA0
  rw [Try.params6] at hA hval
  obtain ⟨rfl, rfl, rfl⟩ := trodAll_none hA
  obtain ⟨rfl, rfl⟩ := trodVars_none hV
  have hmx : maxLen = 9223372036854775807 := by decide
  clear hA0 hval0
  simp only [List.append_nil] at hW'
  refine (lknown_walk  W ).mono fun e W' ⟨he, bel⟩ => ?_
  subst he
  exact ⟨_, rfl, _, _, _, [], [], [], hW', trodAll_mk1 (shut_bool Try.underlying4 _), trodAll_mk0, rfl, bel.frame _, fun h => by cases h⟩
/-- LexKnown: it answers true. -/
theorem lknown_holds : Rows.LexKnownSaid :=
  OpenClaim.holds_of_wide 6 Try.f6 rfl rfl rfl rfl rfl rfl rfl ⟨rfl, rfl, rfl, rfl, rfl⟩ rfl rfl rfl rfl rfl (by kernel_rfl) Try.func6 (by kernel_rfl)
    (of_decide_eq_true (by kernel_rfl)) (by unfold Func.isWrapper; first | (rw [if_pos (by decide +kernel)]; kernel_rfl) | (rw [if_neg (by decide +kernel)]; exact ⟨rfl, rfl⟩))
    (fun os started H enc _ => lknown_lifted os started H enc)
#print axioms lknown_holds
end Go.Proofs.Ytnlpdnimfaipmaa
