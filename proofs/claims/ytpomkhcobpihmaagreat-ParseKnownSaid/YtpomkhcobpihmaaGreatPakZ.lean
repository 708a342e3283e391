/- ParseKnown: chapter 12's examples, and what is refused. -/
import Derived.Test.YtpomkhcobpihmaaGreatPak43
namespace Go.Proofs.YtpomkhcobpihmaaGreat
open Go.ChangeShapes Go.WideShapes Go.ChangeAt Go.RowKit
set_option linter.unusedVariables false
set_option maxRecDepth 100000
abbrev zK1 : List Int := [60, 60, 47, 66, 32, 49, 47, 65, 32, 110, 117, 108, 108, 62, 62]
theorem allK1 : allR zK1 (dpZ 9) 16 = ⟨0, .mk 7 0 [] .nil (.cons ⟨#[66]⟩ (.mk 2 1 [] .nil .nil) .nil), 0⟩ := by kernel_rfl
abbrev zK2 : List Int := [91, 91, 49, 93, 93]
theorem allK2 : allR zK2 (dpZ 1) 6 = ⟨6, nulO, 0⟩ := by kernel_rfl
abbrev zK3 : List Int := [60, 60, 47, 65, 32, 49, 47, 65, 32, 110, 117, 108, 108, 62, 62]
theorem allK3 : allR zK3 (dpZ 9) 16 = ⟨4, nulO, 0⟩ := by kernel_rfl
abbrev zK4 : List Int := [49, 32, 50]
theorem allK4 : allR zK4 (dpZ 9) 4 = ⟨3, nulO, 0⟩ := by kernel_rfl
abbrev zK5 : List Int := [91, 49]
theorem allK5 : allR zK5 (dpZ 9) 3 = ⟨2, nulO, 0⟩ := by kernel_rfl
abbrev zKi : List Int := [51, 32, 48, 32, 111, 98, 106, 32, 60, 60, 47, 76, 101, 110, 103, 116, 104, 32, 50, 62, 62, 32, 115, 116, 114, 101, 97, 109, 10, 97, 98, 10, 101, 110, 100, 115, 116, 114, 101, 97, 109, 32, 101, 110, 100, 111, 98, 106]
theorem itemK : itemT zKi 49 (dpZ 9) 0 = ⟨3, ⟨0, .mk 8 0 [97, 98] .nil .nil, 48⟩⟩ := by kernel_rfl
theorem bytS_byt {W : World} {S : Nat → Prop} {A : Option Addr} {m c : Nat} {zs : List Int} (h : BytS W S A m c zs) (hS : ∀ b, S b → b < W.heap.size) : Byt W W.heap.size A m c zs := by
  obtain ⟨h1, h2, h3, h4⟩ := h
  refine ⟨h1, h2.1, h3, fun h0 => ?_⟩
  obtain ⟨b, o, e, hb, hc⟩ := h4 h0
  exact ⟨b, o, e, hS b hb, hc⟩
/-- A text laid, and read as one object. -/
theorem all_lit (fr : Nat × Nat) (W : World) (zs : List Int) (n : Nat) (hz : ∀ z ∈ zs, 0 ≤ z ∧ z < 256) (hl : zs.length = n) (hn : n ≤ 900000) (d : Int) (hd : -9223372036854775808 ≤ d ∧ d ≤ 9223372036854775807) (R : Rt) (hR : allR zs (dpZ d) (n + 1) = R) :
    Calls Tryz.prog 9 #[.slice (some ⟨W.heap.size, 0, none⟩) n n, .int .i64 d] (W.alloc (.cells (List.map (Value.int .u8) zs).toArray 5 fr)) (AlP W R) := by
  have hby := byt_lit W fr zs hz n hl _ rfl
  have hbl := (Below.refl W.heap.size W).alloc (Nat.le_refl _) (.cells (List.map (Value.int .u8) zs).toArray 5 fr)
  have hs1 : (W.alloc (.cells (List.map (Value.int .u8) zs).toArray 5 fr)).heap.size = W.heap.size + 1 := by simp
  rw [← hs1] at hby
  have hal := pAllC _ n n d zs _ (n + 1) hby hn hd (by omega)
  rw [hR] at hal
  refine hal.mono ?_
  rintro r w' ⟨d0, d1, d2, d3, d4, hrr, hob, hb⟩
  exact ⟨d0, d1, d2, d3, d4, hrr, ObR.keep (fun _ _ => rfl) (fun y hy => ⟨by have := hy.1; omega, hy.2⟩) _ hob, hbl.trans (hb.mono hbl.size)⟩
theorem new_lit (fr : Nat × Nat) (W : World) (zs : List Int) (n : Nat) (hz : ∀ z ∈ zs, 0 ≤ z ∧ z < 256) (hl : zs.length = n) (hn : n ≤ 900000) (d : Int) (hd : -9223372036854775808 ≤ d ∧ d ≤ 9223372036854775807) :
    Calls Tryz.prog 10 #[.slice (some ⟨W.heap.size, 0, none⟩) n n, .int .i64 d] (W.alloc (.cells (List.map (Value.int .u8) zs).toArray 5 fr)) fun r w' => ∃ m h g, W.heap.size ≤ g ∧ W.heap.size ≤ h ∧ W.heap.size ≤ m ∧ r = .returned (.pointer (some ⟨m, 0, none⟩)) ∧ PX w' m h g (some ⟨W.heap.size, 0, none⟩) n n (dpZ d) zs 0 ∧ Below W.heap.size W w' := by
  have hby := byt_lit W fr zs hz n hl _ rfl
  have hbl := (Below.refl W.heap.size W).alloc (Nat.le_refl _) (.cells (List.map (Value.int .u8) zs).toArray 5 fr)
  have hs1 : (W.alloc (.cells (List.map (Value.int .u8) zs).toArray 5 fr)).heap.size = W.heap.size + 1 := by simp
  rw [← hs1] at hby
  refine (pnewC _ n n d zs _ hby hn hd).mono ?_
  rintro r w' ⟨hrr, hx, hb⟩
  exact ⟨_, _, _, by omega, by omega, by omega, hrr, hx, hbl.trans (hb.mono hbl.size)⟩
set_option maxHeartbeats 8000000 in
theorem pknown_walk (w : World) : Calls Tryz.prog 3 #[] w fun e w' => e = .returned (.bool true) ∧ Below w.heap.size w w' := by
  have HAW := Lib.hid (awake_any12 w)
  have ha1 := fun W => all_lit (15, 16) W zK1 15 (by decide) rfl (by decide) 9 (by decide) _ allK1
  simp only [List.map] at ha1
  have HA1 := Lib.hid ha1
  have ha2 := fun W => all_lit (5, 6) W zK2 5 (by decide) rfl (by decide) 1 (by decide) _ allK2
  simp only [List.map] at ha2
  have HA2 := Lib.hid ha2
  have ha3 := fun W => all_lit (15, 16) W zK3 15 (by decide) rfl (by decide) 9 (by decide) _ allK3
  simp only [List.map] at ha3
  have HA3 := Lib.hid ha3
  have ha4 := fun W => all_lit (3, 4) W zK4 3 (by decide) rfl (by decide) 9 (by decide) _ allK4
  simp only [List.map] at ha4
  have HA4 := Lib.hid ha4
  have ha5 := fun W => all_lit (2, 3) W zK5 2 (by decide) rfl (by decide) 9 (by decide) _ allK5
  simp only [List.map] at ha5
  have HA5 := Lib.hid ha5
  have hnw := fun W => new_lit (48, 49) W zKi 48 (by decide) rfl (by decide) 9 (by decide)
  simp only [List.map] at hnw
  have HNW := Lib.hid hnw
  have kc := fun (w : World) (C : Array Value) (n c : Nat) => Lib.run_convert_bytes_const (P := Tryz.prog) w 23 5 C n c Tryz.underlying23 Tryz.underlying5
  clear ha1 ha2 ha3 ha4 ha5 hnw
  go_enter Tryz.func3, Tryz.ntmps3
  go_upto_region 3 with (first
    | (go_at_call 8; refine HAW.out.mono ?_; (rintro e wa ⟨rfl, hb1⟩); have HB0 := Lib.hid hb1; clear hb1))
  go_upto_region 4 with (first
    | (go_at_call 9; refine (HA1.out _).mono ?_; (rintro r v1 ⟨d0, d1, d2, d3, d4, hrr, hob, hb⟩); (try dsimp only at hrr hob); subst hrr; obtain ⟨k1, n1, A1, m1, e1, B1, l1, f1, C1, o1, h1, rfl, rfl, rfl, rfl, rfl⟩ := hob.shp; have HOX := Lib.hid hob; have HBX := Lib.hid hb; clear hob hb))
  have hb8 := (Below.refl v1.heap.size v1).alloc (Nat.le_refl _) (.cells #[.int .i64 k1, .int .i64 n1, .slice A1 m1 e1, .slice B1 l1 f1, .slice C1 o1 h1] 27)
  have hn8 := heap_alloc_new v1 (.cells #[.int .i64 k1, .int .i64 n1, .slice A1 m1 e1, .slice B1 l1 f1, .slice C1 o1 h1] 27)
  obtain ⟨u1, hw8⟩ : ∃ u1, v1.alloc (.cells #[.int .i64 k1, .int .i64 n1, .slice A1 m1 e1, .slice B1 l1 f1, .slice C1 o1 h1] 27) = u1 := ⟨_, rfl⟩
  rw [hw8] at hb8 hn8
  rw [hw8]
  have HO1 := Lib.hid (ObR.keep (S' := fun y => y < u1.heap.size) (fun b hb => hb8.block b hb.2) (fun b hb => Nat.lt_of_lt_of_le hb.2 hb8.size) _ HOX.out)
  have HN1 := Lib.hid hn8
  have HB1 := Lib.hid ((HB0.out.trans (HBX.out.mono HB0.out.size)).trans (hb8.mono (Nat.le_trans HB0.out.size HBX.out.size)))
  have HK1 := Lib.hid (Below.refl u1.heap.size u1)
  clear hb8 hn8 hw8 HOX HBX HA1
  go_upto_region 5 with (first
    | (go_at_call 9; refine (HA2.out _).mono ?_; (rintro r v2 ⟨d0, d1, d2, d3, d4, hrr, hob, hb⟩); (try dsimp only at hrr hob); subst hrr; obtain ⟨k2, n2, A2, m2, e2, B2, l2, f2, C2, o2, h2, rfl, rfl, rfl, rfl, rfl⟩ := hob.shp; have HOX := Lib.hid hob; have HBX := Lib.hid hb; clear hob hb))
  have hb8 := (Below.refl v2.heap.size v2).alloc (Nat.le_refl _) (.cells #[.int .i64 k2, .int .i64 n2, .slice A2 m2 e2, .slice B2 l2 f2, .slice C2 o2 h2] 27)
  have hn8 := heap_alloc_new v2 (.cells #[.int .i64 k2, .int .i64 n2, .slice A2 m2 e2, .slice B2 l2 f2, .slice C2 o2 h2] 27)
  obtain ⟨u2, hw8⟩ : ∃ u2, v2.alloc (.cells #[.int .i64 k2, .int .i64 n2, .slice A2 m2 e2, .slice B2 l2 f2, .slice C2 o2 h2] 27) = u2 := ⟨_, rfl⟩
  rw [hw8] at hb8 hn8
  rw [hw8]
  have HK2 := Lib.hid ((HK1.out.trans (HBX.out.mono HK1.out.size)).trans (hb8.mono (Nat.le_trans HK1.out.size HBX.out.size)))
  clear hb8 hn8 hw8 HOX HBX HA2
  go_upto_region 6 with (first
    | (go_at_call 9; refine (HA3.out _).mono ?_; (rintro r v3 ⟨d0, d1, d2, d3, d4, hrr, hob, hb⟩); (try dsimp only at hrr hob); subst hrr; obtain ⟨k3, n3, A3, m3, e3, B3, l3, f3, C3, o3, h3, rfl, rfl, rfl, rfl, rfl⟩ := hob.shp; have HOX := Lib.hid hob; have HBX := Lib.hid hb; clear hob hb))
  have hb8 := (Below.refl v3.heap.size v3).alloc (Nat.le_refl _) (.cells #[.int .i64 k3, .int .i64 n3, .slice A3 m3 e3, .slice B3 l3 f3, .slice C3 o3 h3] 27)
  have hn8 := heap_alloc_new v3 (.cells #[.int .i64 k3, .int .i64 n3, .slice A3 m3 e3, .slice B3 l3 f3, .slice C3 o3 h3] 27)
  obtain ⟨u3, hw8⟩ : ∃ u3, v3.alloc (.cells #[.int .i64 k3, .int .i64 n3, .slice A3 m3 e3, .slice B3 l3 f3, .slice C3 o3 h3] 27) = u3 := ⟨_, rfl⟩
  rw [hw8] at hb8 hn8
  rw [hw8]
  have HK3 := Lib.hid ((HK2.out.trans (HBX.out.mono HK2.out.size)).trans (hb8.mono (Nat.le_trans HK2.out.size HBX.out.size)))
  clear hb8 hn8 hw8 HOX HBX HA3
  go_upto_region 7 with (first
    | (go_at_call 9; refine (HA4.out _).mono ?_; (rintro r v4 ⟨d0, d1, d2, d3, d4, hrr, hob, hb⟩); (try dsimp only at hrr hob); subst hrr; obtain ⟨k4, n4, A4, m4, e4, B4, l4, f4, C4, o4, h4, rfl, rfl, rfl, rfl, rfl⟩ := hob.shp; have HOX := Lib.hid hob; have HBX := Lib.hid hb; clear hob hb))
  have hb8 := (Below.refl v4.heap.size v4).alloc (Nat.le_refl _) (.cells #[.int .i64 k4, .int .i64 n4, .slice A4 m4 e4, .slice B4 l4 f4, .slice C4 o4 h4] 27)
  have hn8 := heap_alloc_new v4 (.cells #[.int .i64 k4, .int .i64 n4, .slice A4 m4 e4, .slice B4 l4 f4, .slice C4 o4 h4] 27)
  obtain ⟨u4, hw8⟩ : ∃ u4, v4.alloc (.cells #[.int .i64 k4, .int .i64 n4, .slice A4 m4 e4, .slice B4 l4 f4, .slice C4 o4 h4] 27) = u4 := ⟨_, rfl⟩
  rw [hw8] at hb8 hn8
  rw [hw8]
  have HK4 := Lib.hid ((HK3.out.trans (HBX.out.mono HK3.out.size)).trans (hb8.mono (Nat.le_trans HK3.out.size HBX.out.size)))
  clear hb8 hn8 hw8 HOX HBX HA4
  go_upto_region 8 with (first
    | (go_at_call 9; refine (HA5.out _).mono ?_; (rintro r v5 ⟨d0, d1, d2, d3, d4, hrr, hob, hb⟩); (try dsimp only at hrr hob); subst hrr; obtain ⟨k5, n5, A5, m5, e5, B5, l5, f5, C5, o5, h5, rfl, rfl, rfl, rfl, rfl⟩ := hob.shp; have HOX := Lib.hid hob; have HBX := Lib.hid hb; clear hob hb))
  have hb8 := (Below.refl v5.heap.size v5).alloc (Nat.le_refl _) (.cells #[.int .i64 k5, .int .i64 n5, .slice A5 m5 e5, .slice B5 l5 f5, .slice C5 o5 h5] 27)
  have hn8 := heap_alloc_new v5 (.cells #[.int .i64 k5, .int .i64 n5, .slice A5 m5 e5, .slice B5 l5 f5, .slice C5 o5 h5] 27)
  obtain ⟨u5, hw8⟩ : ∃ u5, v5.alloc (.cells #[.int .i64 k5, .int .i64 n5, .slice A5 m5 e5, .slice B5 l5 f5, .slice C5 o5 h5] 27) = u5 := ⟨_, rfl⟩
  rw [hw8] at hb8 hn8
  rw [hw8]
  have HK5 := Lib.hid ((HK4.out.trans (HBX.out.mono HK4.out.size)).trans (hb8.mono (Nat.le_trans HK4.out.size HBX.out.size)))
  clear hb8 hn8 hw8 HOX HBX HA5
  go_upto_region 9 with (first
    | (go_at_call 10; refine (HNW.out _).mono ?_; (rintro r w6 ⟨m, h, g, hg, hh, hm, rfl, hx, hb⟩); have HX6 := Lib.hid hx; have HGG : Hid (u5.heap.size ≤ g) := Lib.hid hg; have HB6 := Lib.hid hb; clear hg hh hm hx hb))
  have HIT := Lib.hid (pItemC 49 HX6.out (by decide) (by decide))
  rw [itemK] at HIT
  go_upto_region 10 with (first
    | (go_at_call 11; refine HIT.out.mono ?_; (rintro r w7 ⟨d0, d1, d2, d3, d4, hrr, hob, hx7, ho7⟩); (try dsimp only at hrr hob hx7); subst hrr; (unfold ObR at hob); (obtain ⟨rfl, rfl, -, -, ⟨AB, mB, cB, rfl, hB⟩, ⟨AL, cL, rfl, -⟩, ⟨AD, cD, rfl, -⟩⟩ := hob); have HYB := Lib.hid hB; have HO7 := Lib.hid ho7; clear hB hx7 ho7))
  have hb8 := (Below.refl w7.heap.size w7).alloc (Nat.le_refl _) (.cells #[.int .i64 3, .int .i64 8, .int .i64 0, .slice AB mB cB, .slice AL (Obs.len .nil) cL, .slice AD (Ens.len .nil) cD] 34)
  have hn8 := heap_alloc_new w7 (.cells #[.int .i64 3, .int .i64 8, .int .i64 0, .slice AB mB cB, .slice AL (Obs.len .nil) cL, .slice AD (Ens.len .nil) cD] 34)
  obtain ⟨w8, hw8⟩ : ∃ w8, w7.alloc (.cells #[.int .i64 3, .int .i64 8, .int .i64 0, .slice AB mB cB, .slice AL (Obs.len .nil) cL, .slice AD (Ens.len .nil) cD] 34) = w8 := ⟨_, rfl⟩
  rw [hw8] at hb8 hn8
  rw [hw8]
  have hgw := HX6.out.lx.cu.lt
  have hbig := HK5.out.trans (HB6.out.mono HK5.out.size)
  have h67 := HO7.out.belowB (Nat.le_trans HK5.out.size HGG.out) (Nat.le_of_lt hgw)
  have h18 := (hbig.trans h67).trans (hb8.mono (Nat.le_trans hbig.size h67.size))
  have hn1 := (h18.block _ (row_lt _ _ _ HN1.out)).trans HN1.out
  have ho1 := ObR.keep (S' := fun y => y < w8.heap.size) (fun b hb => h18.block b hb) (fun b hb => Nat.lt_of_lt_of_le hb h18.size) _ HO1.out
  unfold ObR at ho1
  obtain ⟨-, -, -, -, -, -, ⟨AD1, cD1, eD, -, hD1⟩⟩ := ho1
  injection eD with eD1 eD2 eD3
  subst eD1 eD2 eD3
  obtain ⟨gd, od, rfl, -, hE⟩ := hD1 (by decide)
  obtain ⟨_, _, _, _, _, hkey, -⟩ := EnsR.get _ gd od 0 _ _ hE rfl
  have q1 : w8.cell? ⟨gd, od, none⟩ = some (.string ⟨#[66]⟩) := hkey
  have p4 : w8.cell? ⟨v1.heap.size, 4, none⟩ = some (.slice (some ⟨gd, od, none⟩) 1 h1) := cell_of_row w8 v1.heap.size 4 _ _ (0, 0) hn1
  have c0 := cell_of_row w8 w7.heap.size 0 _ _ (0, 0) hn8
  have c1 := cell_of_row w8 w7.heap.size 1 _ _ (0, 0) hn8
  have c3 := cell_of_row w8 w7.heap.size 3 _ _ (0, 0) hn8
  have c5 : w8.cell? ⟨w7.heap.size, 5, none⟩ = some (.slice AD 0 cD) := cell_of_row w8 w7.heap.size 5 _ _ (0, 0) hn8
  have hyb := bytS_byt (HYB.out.keep (w' := w8) (S' := fun y => y < w8.heap.size) (fun b hb => hb8.block b hb.2) (fun b hb => Nat.lt_of_lt_of_le hb.2 hb8.size)) (fun _ h => h)
  have v0 := conv_str hyb ⟨#[97, 98]⟩ rfl
  have HBL := Lib.hid (HB1.out.trans (h18.mono HB1.out.size))
  clear hn8 hw8 hb8 hgw hbig h67 h18 hn1 hD1 hE hkey hyb HIT HNW HB6 HX6
  go_wp2_with fail
  go_ret
  exact ⟨rfl, HBL.out⟩
set_option maxRecDepth 100000 in
theorem pknown_lifted (os : Os) (started : os.Started) (H : Type) (enc : TypeId × Value → H) :
    ReturnsInHanded {} Tryz.checked os 3 .any (Rows.parseKnownSpec.pre6 enc Tryz.prog Tryz.f3 Rows.parseKnownRow.domain false) (Rows.parseKnownSpec.post enc Tryz.prog Tryz.f3 false true false false) := by
  refine returnsInHanded_of_change (C := Tryz.checked) own started (by kernel_rfl) Tryz.func3
    (ChangeSpec.witness6 (enc := enc) (C := Tryz.checked) false ⟨#[], #[], []⟩ 8 (by kernel_rfl) (by kernel_rfl) (by kernel_rfl) (by kernel_rfl)) ?_
  intro W base args ds gs before hval0 hW hcnd _
  have hval : ∀ (j : Nat) t v, Tryz.f3.params[j]? = some t → args[j]? = some v → Value.okWide Tryz.prog W .any base t v := hval0
  have hW' := hW
  obtain ⟨p, q, hA0, hV, rfl, hfz, hnd⟩ := hW
  have hA : DataW.TrodAll enc Tryz.prog W 0 (fun _ => true) true Tryz.f3.params.toList args.toList ds p := hA0
  rw [Tryz.params3] at hA hval
  obtain ⟨rfl, rfl, rfl⟩ := trodAll_none hA
  obtain ⟨rfl, rfl⟩ := trodVars_none hV
  have hmx : maxLen = 9223372036854775807 := by decide
  clear hA0 hval0
  simp only [List.append_nil] at hW'
  refine (pknown_walk  W ).mono fun e W' ⟨he, bel⟩ => ?_
  subst he
  exact ⟨_, rfl, _, _, _, [], [], [], hW', trodAll_mk1 (shut_bool Tryz.underlying4 _), trodAll_mk0, rfl, bel.frame _, fun h => by cases h⟩
/-- ParseKnown: it answers true. -/
theorem pknown_holds : Rows.ParseKnownSaid :=
  OpenClaim.holds_of_wide 3 Tryz.f3 rfl rfl rfl rfl rfl rfl rfl ⟨rfl, rfl, rfl, rfl, rfl⟩ rfl rfl rfl rfl rfl (by kernel_rfl) Tryz.func3 (by kernel_rfl)
    (of_decide_eq_true (by kernel_rfl)) (by unfold Func.isWrapper; first | (rw [if_pos (by decide +kernel)]; kernel_rfl) | (rw [if_neg (by decide +kernel)]; exact ⟨rfl, rfl⟩))
    (fun os started H enc _ => pknown_lifted os started H enc)
#print axioms pknown_holds
end Go.Proofs.YtpomkhcobpihmaaGreat
