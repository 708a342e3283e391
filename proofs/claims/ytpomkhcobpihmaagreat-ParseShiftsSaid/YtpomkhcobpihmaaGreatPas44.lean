/- Contracts of functions that the law calls, and what they lean on (a part). -/
import Derived.Shelf.SlSortCmp.NoneTotal
import Derived.Test.YtpomkhcobpihmaaGreatPas38
import Derived.Test.YtpomkhcobpihmaaGreatPas43
namespace Go.Proofs.YtpomkhcobpihmaaGreat
section
open Go.RowKit Go.Sort Go.Maps
set_option linter.unusedVariables false
set_option maxRecDepth 100000
theorem sortNoneC (A : Option Addr) (cap : Nat) (f : Value) (w : World) : Calls Tryz.prog 123 #[.slice A 0 cap, f] w fun e w' => e = .returned (.tuple #[]) ∧ w' = w :=
  AnyF.slices_SortFunc_none Tryz.sortE A cap f w
theorem ensV_nil (W : World) (S : Nat → Prop) : EnsV W S .nil none 0 := ⟨by simp [Ens.len], fun h => absurd h (by simp [Ens.len])⟩
/-- What is done at the end: the entries, sorted. -/
theorem sortEndC {w0 w : World} {AV : Option Addr} {N cV : Nat} {acc : Ens} (ho : OwnE noneT w (w0.heap.size + 1) (.slice AV N cV) (nnE acc)) (hd : DK acc) (hN : N ≤ 1000000000) :
    Calls Tryz.prog 123 #[.slice AV N cV, .func (.func 124) #[] #[]] w fun e w' => e = .returned (.tuple #[]) ∧ EnsV w' (nwT w0 w') (dictF acc .nil) AV cV ∧ (dictF acc .nil).len = N ∧ Below (w0.heap.size + 1) w w' := by
  obtain ⟨hl, hc, rs, e1, e2, hx⟩ := ho.rows
  rcases Nat.eq_zero_or_pos N with h0 | h0
  · subst h0
    have hr : rs = [] := List.eq_nil_of_length_eq_zero e2
    subst hr
    have hdd := dict_sorted acc [] hd (by rw [← e1]) List.Pairwise.nil
    have hdn : dictF acc .nil = .nil := by rw [← Ens.of_to (dictF acc .nil), ← hdd]; rfl
    refine (sortNoneC _ _ _ _).mono fun e w' ⟨he, hw⟩ => ?_
    subst hw
    rw [hdn]
    exact ⟨he, ⟨hc, fun h => absurd h (by simp [Ens.len])⟩, rfl, Below.refl _ _⟩
  · obtain ⟨gb, rfl, hb, hlt, hH, hrw⟩ := hx h0
    subst e2
    refine (sortSomeC rs gb cV w hH hlt hN).mono fun e w' ⟨he, rs', hp, hs, hcell, hon⟩ => ?_
    have hdd := dict_sorted acc rs' hd (by rw [← e1]; exact hp.map prR) hs
    have hde : dictF acc .nil = Ens.ofL (rs'.map prR) := by rw [hdd, Ens.of_to]
    have hlen : (dictF acc .nil).len = rs.length := by rw [hde, Ens.ofL_len, List.length_map]; exact hp.length_eq
    have hbel : Below (w0.heap.size + 1) w w' := ⟨hon.os, hon.tape, hon.output, hon.size, fun k hk => hon.block k (by omega) (by omega)⟩
    refine ⟨he, ⟨by rw [hlen]; exact hc, fun _ => ⟨gb, 0, rfl, ⟨by omega, Nat.lt_of_lt_of_le hlt hon.size⟩, ?_⟩⟩, hlen, hbel⟩
    rw [hde]
    exact rows_ens rs' gb 0 hcell fun r hr => ObR.keep (fun b hb2 => hon.block b hb2.1.2 hb2.2) (fun b hb2 => ⟨by have := hb2.1.1; omega, Nat.lt_of_lt_of_le hb2.1.2 hon.size⟩) r.x (hrw r (hp.mem_iff.1 hr))
def posW (g : Nat) (w : World) : Nat := match w.cell? ⟨g, 1, none⟩ with
  | some (.int _ q) => q.toNat
  | _ => 0
theorem PX.pos {w : World} {m h g n c d p : Nat} {A : Option Addr} {zs : List Int} (x : PX w m h g A n c d zs p) : posW g w = p := by
  unfold posW
  rw [x.lx.cu.c1]
  simp
theorem size_maxLen {b : List Int} {s : ByteArray} (h : strOfNums b = s) (hb : b.length ≤ 1000000) : s.size ≤ maxLen := by
  rw [← h, strOfNums_size]
  have : maxLen = 9223372036854775807 := by decide
  omega
set_option maxHeartbeats 4000000 in
theorem entriesC {m h g n c d : Nat} {A : Option Addr} {zs : List Int} (F : Nat) (IH : ∀ f, f < F → ValC m h g A n c d zs f) : EnsC12 m h g A n c d zs F := by
  intro dd w p hdd x hf
  obtain ⟨R, hR⟩ : ∃ R, parF zs F (.ens .nil) dd p = R := ⟨_, rfl⟩
  rw [hR]
  have HR := Lib.hid hR
  have HX := Lib.hid x
  have HF := Lib.hid hf
  have HIH := Lib.hid IH
  have HDD := Lib.hid hdd
  have HLT : Hid (m < w.heap.size ∧ h < w.heap.size ∧ g < w.heap.size) := Lib.hid ⟨x.lt, x.lx.lt, x.lx.cu.lt⟩
  have hmm := @run_makeMap Tryz.prog
  have hb1 := (Below.refl w.heap.size w).alloc (Nat.le_refl _) (.map #[] 0)
  have hm1 := SetS.made w
  obtain ⟨W1, hW1⟩ : ∃ W1, w.alloc (.map #[] 0) = W1 := ⟨_, rfl⟩
  rw [hW1] at hb1 hm1
  have HB1 := Lib.hid hb1
  have HM1 := Lib.hid hm1
  have HW1 := Lib.hid hW1
  clear x hf hR IH hdd hb1 hm1 hW1
  go_enter Tryz.func110, Tryz.ntmps110
  go_wp2_with fail
  rw [HW1.out]
  go_loopw [6] (fun lv wr => ∃ (AV : Option Addr) (N cV q f' M : Nat) (l : Ens), lv = .slice AV N cV ∧ Hid ((nnE l).len = N) ∧ Hid (M ≤ q ∧ N ≤ q) ∧ Hid (PX wr m h g A n c d zs q) ∧ Hid (Only g w wr) ∧ Hid (OwnE noneT wr (w.heap.size + 1) (.slice AV N cV) (nnE l)) ∧ Hid (n - q < f' ∧ f' ≤ F) ∧ Hid (parF zs f' (.ens l) dd q = R) ∧ Hid (SetS wr w.heap.size M (fun s => hasK s l)) ∧ Hid (DK l) ∧ Hid (w.heap.size + 1 ≤ wr.heap.size)) (fun _ wr => n + 1 - posW g wr)
  case atStart => exact ⟨none, 0, 0, p, F, 0, .nil, rfl, Lib.hid rfl, Lib.hid ⟨Nat.zero_le _, Nat.zero_le _⟩, Lib.hid (HX.out.low HB1.out), Lib.hid (Only.of_below HB1.out g), Lib.hid (OwnE.nil _ _ _), Lib.hid ⟨HF.out, Nat.le_refl _⟩, HR, HM1, Lib.hid List.Pairwise.nil, Lib.hid HM1.out.lt⟩
  case round =>
    obtain ⟨AV, N, cV, q, f', M, l, rfl, HN, HNQ, HXq, HOq, HOW, HFF, HPR, HM, HDK, HBZ⟩ := hrel
    obtain ⟨f, rfl⟩ : ∃ f, f' = f + 1 := ⟨f' - 1, by have := HFF.out; omega⟩
    have hpr := HPR.out
    rw [parF] at hpr
    have htk := ptkC HXq.out
    have hgt := tokT_gt zs q
    have hbl := tokT_len zs q
    have hvl : (tokT zs q).e = 0 → (tokT zs q).k ≠ 0 → ∀ W, PX W m h g A n c d zs (tokT zs q).q → Calls Tryz.prog 38 #[.pointer (some ⟨m, 0, none⟩), .int .i64 dd] W (VaP m h g A n c d zs W (parF zs f .val dd (tokT zs q).q)) := fun h0 hk W hW => HIH.out f (by have := HFF.out; omega) dd W _ HDD.out hW (by have := tokT_gt zs q h0 hk; have := hW.lx.pl; have := HFF.out; omega)
    have hpq := parF_q zs f .val dd (tokT zs q).q
    obtain ⟨V, hV⟩ : ∃ V, parF zs f .val dd (tokT zs q).q = V := ⟨_, rfl⟩
    rw [hV] at hvl hpr hpq
    obtain ⟨T, hT⟩ : ∃ T, tokT zs q = T := ⟨_, rfl⟩
    obtain ⟨bp, hbp⟩ : ∃ bp, blkP zs q = bp := ⟨_, rfl⟩
    have hbn : bp ≤ n := by have := (blkP_le zs q HXq.out.pz).2; rw [HXq.out.len, hbp] at this; exact this
    rw [hT] at hvl hpr hpq htk hgt hbl
    rw [hbp] at hpr htk
    obtain ⟨e, k, v, b, q2⟩ := T
    dsimp only at hvl hpr hpq htk hgt hbl
    obtain ⟨s, hs⟩ : ∃ s, strOfNums b = s := ⟨_, rfl⟩
    have HSZ := Lib.hid (size_maxLen hs hbl)
    have HS := Lib.hid hs
    rw [hs] at hpr
    obtain ⟨hk, hhk⟩ : ∃ hk, hasK s l = hk := ⟨_, rfl⟩
    have HHK := Lib.hid hhk
    rw [hhk] at hpr
    have HTK := Lib.hid htk
    have HBN := Lib.hid hbn
    have k0 := HXq.out.k0
    clear hV hT hbp htk HPR hs hhk hbn hbl
    by_cases he : e = 0
    · subst he
      rw [if_neg (by decide)] at hpr
      by_cases h8 : k = 8
      · subst h8
        rw [if_pos rfl] at hpr
        have HPR := Lib.hid hpr
        clear hpr hpq hvl hgt
        go_upto_region 4 with (first
          | (go_at_call 50; refine HTK.out.mono ?_; (rintro r w3 ⟨A3, l3, c3, rfl, hx3, ho3, hy3, hf3⟩); have HX3 := Lib.hid hx3; have HO3 := Lib.hid ho3; have HY3 := Lib.hid hy3; clear hx3 ho3 hy3 hf3))
        have hn4 := Bx.new w3 95 (.int .i64 8) (.int .i64 bp) (.int .i64 v) (.slice A3 l3 c3)
        have hx4 := HX3.out.alloc (.cells #[.int .i64 8, .int .i64 bp, .int .i64 v, .slice A3 l3 c3] 95)
        have ho4 := HO3.out.alloc (.cells #[.int .i64 8, .int .i64 bp, .int .i64 v, .slice A3 l3 c3] 95)
        have hy4 := HY3.out.alloc (Nat.le_refl _) (.cells #[.int .i64 8, .int .i64 bp, .int .i64 v, .slice A3 l3 c3] 95)
        obtain ⟨w4, hw4⟩ : ∃ w4, w3.alloc (.cells #[.int .i64 8, .int .i64 bp, .int .i64 v, .slice A3 l3 c3] 95) = w4 := ⟨_, rfl⟩
        have hs4 : w3.heap.size ≤ w4.heap.size := by rw [← hw4]; simp
        rw [hw4] at hn4 hx4 ho4 hy4
        rw [hw4]
        have t0 := hn4.c0
        have t1 := hn4.c1
        have t2 := hn4.c2
        have t3 := hn4.c3
        have HN4 := Lib.hid hn4
        have HX4 := Lib.hid hx4
        have HO4 := Lib.hid ho4
        have HY4 := Lib.hid (hy4.more hs4)
        have HOW4 := Lib.hid (HOW.out.keepB ho4 (Nat.lt_succ_of_lt HLT.out.2.2) (fun h => h))
        have HOG4 := Lib.hid (HOq.out.trans ho4)
        clear hn4 hx4 ho4 hy4 hw4 hs4
        have HSE := Lib.hid (sortEndC HOW4.out HDK.out (by have := HNQ.out; have := HXq.out.lx.pl; have := HXq.out.sm; omega))
        go_wp2_with (first
          | (go_at_call 123; refine HSE.out.mono ?_; (rintro r w6 ⟨rfl, hev, hln, hbl⟩); have HEV := Lib.hid hev; have HLN := Lib.hid hln; have HB6 := Lib.hid hbl; clear hev hln hbl))
        go_ret2
        rw [← HPR.out]
        exact ⟨AV, cV, dictF l .nil, by rw [HLN.out]; rfl, fun _ => rfl, fun h => absurd rfl h, HEV.out, HX4.out.lowB HB6.out (Nat.lt_succ_of_lt HLT.out.1) (Nat.lt_succ_of_lt HLT.out.2.1) (Nat.lt_succ_of_lt HLT.out.2.2), HOG4.out.lowB (HB6.out.mono (Nat.le_succ _))⟩
      · rw [if_neg h8] at hpr
        have h8b : (k == 8) = false := beq_eq_false_iff_ne.2 h8
        clear h8
        by_cases hC : k ≠ 4 ∨ hk = true
        · have hR : noR (wrgZ k) bp = R := by
            unfold wrgZ
            by_cases h0 : k = 0
            · rw [if_pos h0] at hpr ⊢; exact hpr
            · rw [if_neg h0] at hpr ⊢
              rw [if_pos hC] at hpr
              exact hpr
          have HPR := Lib.hid hR
          have hWN : wrgZ k ≠ 0 := by unfold wrgZ; split <;> decide
          have HWN := Lib.hid hWN
          clear hpr hpq hvl hgt hR hWN
          rcases hk with _ | _
          · have h4 : k ≠ 4 := hC.elim id (fun h => by cases h)
            have h4b : (k == 4) = false := beq_eq_false_iff_ne.2 h4
            clear hC h4
            go_upto_region 4 with (first
              | (go_at_call 50; refine HTK.out.mono ?_; (rintro r w3 ⟨A3, l3, c3, rfl, hx3, ho3, hy3, hf3⟩); have HX3 := Lib.hid hx3; have HO3 := Lib.hid ho3; have HY3 := Lib.hid hy3; clear hx3 ho3 hy3 hf3))
            have hn4 := Bx.new w3 95 (.int .i64 k) (.int .i64 bp) (.int .i64 v) (.slice A3 l3 c3)
            have hx4 := HX3.out.alloc (.cells #[.int .i64 k, .int .i64 bp, .int .i64 v, .slice A3 l3 c3] 95)
            have ho4 := HO3.out.alloc (.cells #[.int .i64 k, .int .i64 bp, .int .i64 v, .slice A3 l3 c3] 95)
            have hy4 := HY3.out.alloc (Nat.le_refl _) (.cells #[.int .i64 k, .int .i64 bp, .int .i64 v, .slice A3 l3 c3] 95)
            obtain ⟨w4, hw4⟩ : ∃ w4, w3.alloc (.cells #[.int .i64 k, .int .i64 bp, .int .i64 v, .slice A3 l3 c3] 95) = w4 := ⟨_, rfl⟩
            have hs4 : w3.heap.size ≤ w4.heap.size := by rw [← hw4]; simp
            rw [hw4] at hn4 hx4 ho4 hy4
            rw [hw4]
            have t0 := hn4.c0
            have t1 := hn4.c1
            have t2 := hn4.c2
            have t3 := hn4.c3
            have HN4 := Lib.hid hn4
            have HX4 := Lib.hid hx4
            have HO4 := Lib.hid ho4
            have HY4 := Lib.hid (hy4.more hs4)
            have HOW4 := Lib.hid (HOW.out.keepB ho4 (Nat.lt_succ_of_lt HLT.out.2.2) (fun h => h))
            have HOG4 := Lib.hid (HOq.out.trans ho4)
            clear hn4 hx4 ho4 hy4 hw4 hs4
            have HM4 := Lib.hid (HM.out.keep (HO4.out.block w.heap.size HM.out.lt (Nat.ne_of_gt HLT.out.2.2)))
            have hcv := conv_str HY4.out _ rfl
            rw [HS.out] at hcv
            have hlk := HM4.out.look s HSZ.out
            rw [HHK.out] at hlk
            have k4 := HX4.out.k0
            go_upto_region 11 with (first
              | (at_lookup; refine wpList_lookup_run rfl _ _ _ rfl _ _ _ rfl rfl hlk ?_))
            have hb5 := (Below.refl w4.heap.size w4).alloc (Nat.le_refl _) (.cells #[] 130)
            obtain ⟨w5, hw5⟩ : ∃ w5, w4.alloc (.cells #[] 130) = w5 := ⟨_, rfl⟩
            rw [hw5] at hb5
            rw [hw5]
            have HX5 := Lib.hid (HX4.out.low hb5)
            have HO5 := Lib.hid (HOG4.out.trans (Only.of_below hb5 g))
            have HOW5 := Lib.hid (HOW4.out.low hb5)
            have HM5 := Lib.hid (HM4.out.keep (hb5.block w.heap.size HM4.out.lt))
            have HN5 := Lib.hid (HN4.out.below hb5 HN4.out.lt)
            have HSM5 := Lib.hid hb5.size
            clear t0 t1 t2 t3 hcv hlk hb5 hw5
            have t0 := HN5.out.c0
            have t1 := HN5.out.c1
            have t2 := HN5.out.c2
            have t3 := HN5.out.c3
            have k5 := HX5.out.k0
            have HWR := Lib.hid (wrongC HX5.out k v bp A3 l3 c3 HBN.out)
            obtain ⟨WZ, hWZ⟩ : ∃ WZ, wrgZ k = WZ := ⟨_, rfl⟩
            rw [hWZ] at HWR HPR HWN
            clear hWZ
            go_wp2_with (first
              | (go_at_call 51; refine HWR.out.mono ?_; (rintro r w6 ⟨rfl, hx6, ho6⟩); have HX6 := Lib.hid hx6; have HO6 := Lib.hid ho6; clear hx6 ho6))
            go_ret2
            rw [← HPR.out]
            exact ⟨none, 0, .nil, rfl, fun h => absurd h HWN.out, fun _ => rfl, ensV_nil _ _, HX6.out, HO5.out.trans HO6.out⟩
          · clear hC
            go_upto_region 4 with (first
              | (go_at_call 50; refine HTK.out.mono ?_; (rintro r w3 ⟨A3, l3, c3, rfl, hx3, ho3, hy3, hf3⟩); have HX3 := Lib.hid hx3; have HO3 := Lib.hid ho3; have HY3 := Lib.hid hy3; clear hx3 ho3 hy3 hf3))
            have hn4 := Bx.new w3 95 (.int .i64 k) (.int .i64 bp) (.int .i64 v) (.slice A3 l3 c3)
            have hx4 := HX3.out.alloc (.cells #[.int .i64 k, .int .i64 bp, .int .i64 v, .slice A3 l3 c3] 95)
            have ho4 := HO3.out.alloc (.cells #[.int .i64 k, .int .i64 bp, .int .i64 v, .slice A3 l3 c3] 95)
            have hy4 := HY3.out.alloc (Nat.le_refl _) (.cells #[.int .i64 k, .int .i64 bp, .int .i64 v, .slice A3 l3 c3] 95)
            obtain ⟨w4, hw4⟩ : ∃ w4, w3.alloc (.cells #[.int .i64 k, .int .i64 bp, .int .i64 v, .slice A3 l3 c3] 95) = w4 := ⟨_, rfl⟩
            have hs4 : w3.heap.size ≤ w4.heap.size := by rw [← hw4]; simp
            rw [hw4] at hn4 hx4 ho4 hy4
            rw [hw4]
            have t0 := hn4.c0
            have t1 := hn4.c1
            have t2 := hn4.c2
            have t3 := hn4.c3
            have HN4 := Lib.hid hn4
            have HX4 := Lib.hid hx4
            have HO4 := Lib.hid ho4
            have HY4 := Lib.hid (hy4.more hs4)
            have HOW4 := Lib.hid (HOW.out.keepB ho4 (Nat.lt_succ_of_lt HLT.out.2.2) (fun h => h))
            have HOG4 := Lib.hid (HOq.out.trans ho4)
            clear hn4 hx4 ho4 hy4 hw4 hs4
            have HM4 := Lib.hid (HM.out.keep (HO4.out.block w.heap.size HM.out.lt (Nat.ne_of_gt HLT.out.2.2)))
            have hcv := conv_str HY4.out _ rfl
            rw [HS.out] at hcv
            have hlk := HM4.out.look s HSZ.out
            rw [HHK.out] at hlk
            have k4 := HX4.out.k0
            go_upto_region 11 with (first
              | (at_lookup; refine wpList_lookup_run rfl _ _ _ rfl _ _ _ rfl rfl hlk ?_))
            have hb5 := (Below.refl w4.heap.size w4).alloc (Nat.le_refl _) (.cells #[] 130)
            obtain ⟨w5, hw5⟩ : ∃ w5, w4.alloc (.cells #[] 130) = w5 := ⟨_, rfl⟩
            rw [hw5] at hb5
            rw [hw5]
            have HX5 := Lib.hid (HX4.out.low hb5)
            have HO5 := Lib.hid (HOG4.out.trans (Only.of_below hb5 g))
            have HOW5 := Lib.hid (HOW4.out.low hb5)
            have HM5 := Lib.hid (HM4.out.keep (hb5.block w.heap.size HM4.out.lt))
            have HN5 := Lib.hid (HN4.out.below hb5 HN4.out.lt)
            have HSM5 := Lib.hid hb5.size
            clear t0 t1 t2 t3 hcv hlk hb5 hw5
            have t0 := HN5.out.c0
            have t1 := HN5.out.c1
            have t2 := HN5.out.c2
            have t3 := HN5.out.c3
            have k5 := HX5.out.k0
            have HWR := Lib.hid (wrongC HX5.out k v bp A3 l3 c3 HBN.out)
            obtain ⟨WZ, hWZ⟩ : ∃ WZ, wrgZ k = WZ := ⟨_, rfl⟩
            rw [hWZ] at HWR HPR HWN
            clear hWZ
            go_wp2_with (first
              | (go_at_call 51; refine HWR.out.mono ?_; (rintro r w6 ⟨rfl, hx6, ho6⟩); have HX6 := Lib.hid hx6; have HO6 := Lib.hid ho6; clear hx6 ho6))
            go_ret2
            rw [← HPR.out]
            exact ⟨none, 0, .nil, rfl, fun h => absurd h HWN.out, fun _ => rfl, ensV_nil _ _, HX6.out, HO5.out.trans HO6.out⟩
        · obtain ⟨rfl, rfl⟩ : k = 4 ∧ hk = false := by
            constructor
            · exact Classical.byContradiction fun h => hC (.inl h)
            · cases hk with
              | false => rfl
              | true => exact absurd (.inr rfl) hC
          rw [if_neg (by decide), if_neg hC] at hpr
          have HVL := Lib.hid (hvl rfl (by decide))
          have HGT := Lib.hid (hgt rfl (by decide))
          clear hvl hgt hC
          by_cases hE : V.e = 0
          · rw [if_neg (fun h => h hE)] at hpr
            have HPQ := Lib.hid (hpq hE)
            have HPR := Lib.hid hpr
            obtain ⟨E, X, q5⟩ := V
            dsimp only at hE HPQ HPR
            subst hE
            clear hpr hpq
            go_upto_region 4 with (first
              | (go_at_call 50; refine HTK.out.mono ?_; (rintro r w3 ⟨A3, l3, c3, rfl, hx3, ho3, hy3, hf3⟩); have HX3 := Lib.hid hx3; have HO3 := Lib.hid ho3; have HY3 := Lib.hid hy3; clear hx3 ho3 hy3 hf3))
            have hn4 := Bx.new w3 95 (.int .i64 4) (.int .i64 bp) (.int .i64 v) (.slice A3 l3 c3)
            have hx4 := HX3.out.alloc (.cells #[.int .i64 4, .int .i64 bp, .int .i64 v, .slice A3 l3 c3] 95)
            have ho4 := HO3.out.alloc (.cells #[.int .i64 4, .int .i64 bp, .int .i64 v, .slice A3 l3 c3] 95)
            have hy4 := HY3.out.alloc (Nat.le_refl _) (.cells #[.int .i64 4, .int .i64 bp, .int .i64 v, .slice A3 l3 c3] 95)
            obtain ⟨w4, hw4⟩ : ∃ w4, w3.alloc (.cells #[.int .i64 4, .int .i64 bp, .int .i64 v, .slice A3 l3 c3] 95) = w4 := ⟨_, rfl⟩
            have hs4 : w3.heap.size ≤ w4.heap.size := by rw [← hw4]; simp
            rw [hw4] at hn4 hx4 ho4 hy4
            rw [hw4]
            have t0 := hn4.c0
            have t1 := hn4.c1
            have t2 := hn4.c2
            have t3 := hn4.c3
            have HN4 := Lib.hid hn4
            have HX4 := Lib.hid hx4
            have HO4 := Lib.hid ho4
            have HY4 := Lib.hid (hy4.more hs4)
            have HOW4 := Lib.hid (HOW.out.keepB ho4 (Nat.lt_succ_of_lt HLT.out.2.2) (fun h => h))
            have HOG4 := Lib.hid (HOq.out.trans ho4)
            clear hn4 hx4 ho4 hy4 hw4 hs4
            have HM4 := Lib.hid (HM.out.keep (HO4.out.block w.heap.size HM.out.lt (Nat.ne_of_gt HLT.out.2.2)))
            have hcv := conv_str HY4.out _ rfl
            rw [HS.out] at hcv
            have hlk := HM4.out.look s HSZ.out
            rw [HHK.out] at hlk
            have k4 := HX4.out.k0
            go_upto_region 11 with (first
              | (at_lookup; refine wpList_lookup_run rfl _ _ _ rfl _ _ _ rfl rfl hlk ?_))
            have hb5 := (Below.refl w4.heap.size w4).alloc (Nat.le_refl _) (.cells #[] 130)
            obtain ⟨w5, hw5⟩ : ∃ w5, w4.alloc (.cells #[] 130) = w5 := ⟨_, rfl⟩
            rw [hw5] at hb5
            rw [hw5]
            have HX5 := Lib.hid (HX4.out.low hb5)
            have HO5 := Lib.hid (HOG4.out.trans (Only.of_below hb5 g))
            have HOW5 := Lib.hid (HOW4.out.low hb5)
            have HM5 := Lib.hid (HM4.out.keep (hb5.block w.heap.size HM4.out.lt))
            have HN5 := Lib.hid (HN4.out.below hb5 HN4.out.lt)
            have HSM5 := Lib.hid hb5.size
            clear t0 t1 t2 t3 hcv hlk hb5 hw5
            have t0 := HN5.out.c0
            have t1 := HN5.out.c1
            have t2 := HN5.out.c2
            have t3 := HN5.out.c3
            have k5 := HX5.out.k0
            obtain ⟨w6, hrun6, hm6, ho6⟩ := HM5.out.put s HSZ.out (by have := HNQ.out; have := HXq.out.lx.pl; have := HXq.out.sm; unfold maxLen; omega)
            have hb6 := ho6.below (Nat.le_of_lt HM5.out.lt)
            have HX6 := Lib.hid (HX5.out.lowB hb6 HLT.out.1 HLT.out.2.1 HLT.out.2.2)
            have HOW6 := Lib.hid (HOW5.out.keepB ho6 (Nat.lt_succ_self _) (fun h => h))
            have HO6 := Lib.hid (HO5.out.lowB hb6)
            have HM6 := Lib.hid hm6
            have HBZ6 : Hid (w.heap.size + 1 ≤ w6.heap.size) := Lib.hid (Nat.le_trans (Nat.le_trans HBZ.out (Nat.le_trans HO4.out.size HSM5.out)) ho6.size)
            have k6 := HX6.out.k0
            go_upto_region 14 with (first
              | (at_mapUpdate; refine wpList_mapUpdate_run rfl _ _ _ _ rfl _ _ _ rfl rfl rfl hrun6 ?_))
            clear hrun6 hm6 ho6 hb6
            go_upto_region 15 with (first
              | (go_at_call 38; refine (HVL.out _ HX6.out).mono ?_; (rintro r w7 ⟨d0, d1, d2, d3, d4, hrr, hob, hx7, ho7⟩); (try dsimp only at hrr hob hx7); subst hrr; obtain ⟨k7, n7, A5, m5, e5, A6, m6, e6, A7, m7, e7, rfl, rfl, rfl, rfl, rfl⟩ := hob.shp; have HOB := Lib.hid hob; have HX7 := Lib.hid hx7; have HO7 := Lib.hid ho7; clear hob hx7 ho7))
            have hk7 := kind_c0 HOB.out
            have HK7 : Hid (k7 = X.kind) := Lib.hid (by injection hk7)
            have hb8 := (Below.refl w7.heap.size w7).alloc (Nat.le_refl _) (.cells #[.int .i64 k7, .int .i64 n7, .slice A5 m5 e5, .slice A6 m6 e6, .slice A7 m7 e7] 27)
            have hn8 := heap_alloc_new w7 (.cells #[.int .i64 k7, .int .i64 n7, .slice A5 m5 e5, .slice A6 m6 e6, .slice A7 m7 e7] 27)
            obtain ⟨w8, hw8⟩ : ∃ w8, w7.alloc (.cells #[.int .i64 k7, .int .i64 n7, .slice A5 m5 e5, .slice A6 m6 e6, .slice A7 m7 e7] 27) = w8 := ⟨_, rfl⟩
            rw [hw8] at hb8 hn8
            rw [hw8]
            have c0 : w8.cell? ⟨w7.heap.size, 0, none⟩ = some (.int .i64 k7) := cell_of_row _ _ 0 _ _ (0, 0) hn8
            have c1 : w8.cell? ⟨w7.heap.size, 1, none⟩ = some (.int .i64 n7) := cell_of_row _ _ 1 _ _ (0, 0) hn8
            have c2 : w8.cell? ⟨w7.heap.size, 2, none⟩ = some (.slice A5 m5 e5) := cell_of_row _ _ 2 _ _ (0, 0) hn8
            have c3 : w8.cell? ⟨w7.heap.size, 3, none⟩ = some (.slice A6 m6 e6) := cell_of_row _ _ 3 _ _ (0, 0) hn8
            have c4 : w8.cell? ⟨w7.heap.size, 4, none⟩ = some (.slice A7 m7 e7) := cell_of_row _ _ 4 _ _ (0, 0) hn8
            have HB8 := Lib.hid hb8
            have HX8 := Lib.hid (HX7.out.low hb8)
            have HO8 := Lib.hid ((HO6.out.trans HO7.out).trans (Only.of_below hb8 g))
            have HM8 := Lib.hid ((HM6.out.keep (HO7.out.block _ HM6.out.lt (Nat.ne_of_gt HLT.out.2.2))).keep (hb8.block _ (Nat.lt_of_lt_of_le HM6.out.lt HO7.out.size)))
            have HFE : Hid ((fun t => hasK t (l.snoc s X)) = (fun t => hasK t l || decide (s = t))) := Lib.hid (funext fun t => hasK_snoc t l s X)
            have HBZ8 : Hid (w.heap.size + 1 ≤ w8.heap.size) := Lib.hid (Nat.le_trans HBZ6.out (Nat.le_trans HO7.out.size hb8.size))
            clear hk7 hb8 hn8 hw8
            by_cases hz : X.kind = 0
            · have hkk : k7 = 0 := by rw [HK7.out]; exact hz
              subst hkk
              have HZ := Lib.hid hz
              clear hz
              go_wp2_with fail
              go_roundw
              case rel => exact ⟨AV, N, cV, q5, f, M + 1, l.snoc s X, rfl, Lib.hid (by rw [nnE_snoc0 l s X HZ.out]; exact HN.out), Lib.hid (by have := HNQ.out; have := HPQ.out; have := HGT.out; omega), HX8, HO8, Lib.hid (by rw [nnE_snoc0 l s X HZ.out]; exact (HOW6.out.keepB HO7.out (Nat.lt_succ_of_lt HLT.out.2.2) (fun h => h)).low HB8.out), Lib.hid (by have := HFF.out; have := HPQ.out; have := HGT.out; have := HX8.out.lx.pl; omega), HPR, Lib.hid (by rw [HFE.out]; exact HM8.out), Lib.hid (HDK.out.snoc s X HHK.out), HBZ8⟩
              case measure => have := HX8.out.pos; have := HXq.out.pos; have := HPQ.out; have := HGT.out; have := HX8.out.lx.pl; omega
            · have hkk : (k7 == 0) = false := beq_eq_false_iff_ne.2 (by rw [HK7.out]; exact hz)
              have HZ := Lib.hid hz
              have hap := OwnE.litG HOW6.out HO7.out (Nat.lt_succ_of_lt HLT.out.2.2) (fun h => h) HB8.out s X HOB.out (by rw [HN.out]; have := HNQ.out; have := HXq.out.lx.pl; have := HXq.out.sm; omega) HBZ6.out (fun _ h => h.elim)
              rw [HN.out] at hap
              have HAP := Lib.hid hap
              clear hz hap
              go_wp2_with (first
                | (at_builtin; obtain ⟨A9, c9, w9, hrun, ho9, hb9⟩ := HAP.out; refine Lib.wpList_append_run_sl _ rfl (.tmp 65) (.tmp 69) 25 rfl _ _ rfl rfl hrun ?_; clear hrun; have HOW9 := Lib.hid ho9; have HB9 := Lib.hid hb9; clear ho9 hb9))
              go_roundw
              case rel => exact ⟨A9, N + 1, c9, q5, f, M + 1, l.snoc s X, rfl, Lib.hid (by rw [nnE_snoc1 l s X HZ.out, Ens.snoc_len, HN.out]), Lib.hid (by have := HNQ.out; have := HPQ.out; have := HGT.out; omega), Lib.hid (HX8.out.lowB HB9.out (Nat.lt_succ_of_lt HLT.out.1) (Nat.lt_succ_of_lt HLT.out.2.1) (Nat.lt_succ_of_lt HLT.out.2.2)), Lib.hid (HO8.out.lowB (HB9.out.mono (Nat.le_succ _))), Lib.hid (by rw [nnE_snoc1 l s X HZ.out]; exact HOW9.out), Lib.hid (by have := HFF.out; have := HPQ.out; have := HGT.out; have := HX8.out.lx.pl; omega), HPR, Lib.hid (by rw [HFE.out]; exact HM8.out.keep (HB9.out.block _ (Nat.lt_succ_self _))), Lib.hid (HDK.out.snoc s X HHK.out), Lib.hid (Nat.le_trans HBZ8.out HB9.out.size)⟩
              case measure => have := (HX8.out.lowB HB9.out (Nat.lt_succ_of_lt HLT.out.1) (Nat.lt_succ_of_lt HLT.out.2.1) (Nat.lt_succ_of_lt HLT.out.2.2)).pos; have := HXq.out.pos; have := HPQ.out; have := HGT.out; have := HX8.out.lx.pl; omega
          · rw [if_pos hE] at hpr
            have HPR := Lib.hid hpr
            obtain ⟨E, X, q5⟩ := V
            dsimp only at hE HPR
            have hEb : (E == 0) = false := beq_eq_false_iff_ne.2 hE
            have HE := Lib.hid hE
            clear hpr hpq hE
            go_upto_region 4 with (first
              | (go_at_call 50; refine HTK.out.mono ?_; (rintro r w3 ⟨A3, l3, c3, rfl, hx3, ho3, hy3, hf3⟩); have HX3 := Lib.hid hx3; have HO3 := Lib.hid ho3; have HY3 := Lib.hid hy3; clear hx3 ho3 hy3 hf3))
            have hn4 := Bx.new w3 95 (.int .i64 4) (.int .i64 bp) (.int .i64 v) (.slice A3 l3 c3)
            have hx4 := HX3.out.alloc (.cells #[.int .i64 4, .int .i64 bp, .int .i64 v, .slice A3 l3 c3] 95)
            have ho4 := HO3.out.alloc (.cells #[.int .i64 4, .int .i64 bp, .int .i64 v, .slice A3 l3 c3] 95)
            have hy4 := HY3.out.alloc (Nat.le_refl _) (.cells #[.int .i64 4, .int .i64 bp, .int .i64 v, .slice A3 l3 c3] 95)
            obtain ⟨w4, hw4⟩ : ∃ w4, w3.alloc (.cells #[.int .i64 4, .int .i64 bp, .int .i64 v, .slice A3 l3 c3] 95) = w4 := ⟨_, rfl⟩
            have hs4 : w3.heap.size ≤ w4.heap.size := by rw [← hw4]; simp
            rw [hw4] at hn4 hx4 ho4 hy4
            rw [hw4]
            have t0 := hn4.c0
            have t1 := hn4.c1
            have t2 := hn4.c2
            have t3 := hn4.c3
            have HN4 := Lib.hid hn4
            have HX4 := Lib.hid hx4
            have HO4 := Lib.hid ho4
            have HY4 := Lib.hid (hy4.more hs4)
            have HOW4 := Lib.hid (HOW.out.keepB ho4 (Nat.lt_succ_of_lt HLT.out.2.2) (fun h => h))
            have HOG4 := Lib.hid (HOq.out.trans ho4)
            clear hn4 hx4 ho4 hy4 hw4 hs4
            have HM4 := Lib.hid (HM.out.keep (HO4.out.block w.heap.size HM.out.lt (Nat.ne_of_gt HLT.out.2.2)))
            have hcv := conv_str HY4.out _ rfl
            rw [HS.out] at hcv
            have hlk := HM4.out.look s HSZ.out
            rw [HHK.out] at hlk
            have k4 := HX4.out.k0
            go_upto_region 11 with (first
              | (at_lookup; refine wpList_lookup_run rfl _ _ _ rfl _ _ _ rfl rfl hlk ?_))
            have hb5 := (Below.refl w4.heap.size w4).alloc (Nat.le_refl _) (.cells #[] 130)
            obtain ⟨w5, hw5⟩ : ∃ w5, w4.alloc (.cells #[] 130) = w5 := ⟨_, rfl⟩
            rw [hw5] at hb5
            rw [hw5]
            have HX5 := Lib.hid (HX4.out.low hb5)
            have HO5 := Lib.hid (HOG4.out.trans (Only.of_below hb5 g))
            have HOW5 := Lib.hid (HOW4.out.low hb5)
            have HM5 := Lib.hid (HM4.out.keep (hb5.block w.heap.size HM4.out.lt))
            have HN5 := Lib.hid (HN4.out.below hb5 HN4.out.lt)
            have HSM5 := Lib.hid hb5.size
            clear t0 t1 t2 t3 hcv hlk hb5 hw5
            have t0 := HN5.out.c0
            have t1 := HN5.out.c1
            have t2 := HN5.out.c2
            have t3 := HN5.out.c3
            have k5 := HX5.out.k0
            obtain ⟨w6, hrun6, hm6, ho6⟩ := HM5.out.put s HSZ.out (by have := HNQ.out; have := HXq.out.lx.pl; have := HXq.out.sm; unfold maxLen; omega)
            have hb6 := ho6.below (Nat.le_of_lt HM5.out.lt)
            have HX6 := Lib.hid (HX5.out.lowB hb6 HLT.out.1 HLT.out.2.1 HLT.out.2.2)
            have HOW6 := Lib.hid (HOW5.out.keepB ho6 (Nat.lt_succ_self _) (fun h => h))
            have HO6 := Lib.hid (HO5.out.lowB hb6)
            have HM6 := Lib.hid hm6
            have HBZ6 : Hid (w.heap.size + 1 ≤ w6.heap.size) := Lib.hid (Nat.le_trans (Nat.le_trans HBZ.out (Nat.le_trans HO4.out.size HSM5.out)) ho6.size)
            have k6 := HX6.out.k0
            go_upto_region 14 with (first
              | (at_mapUpdate; refine wpList_mapUpdate_run rfl _ _ _ _ rfl _ _ _ rfl rfl rfl hrun6 ?_))
            clear hrun6 hm6 ho6 hb6
            go_upto_region 15 with (first
              | (go_at_call 38; refine (HVL.out _ HX6.out).mono ?_; (rintro r w7 ⟨d0, d1, d2, d3, d4, hrr, hob, hx7, ho7⟩); (try dsimp only at hrr hob hx7); subst hrr; obtain ⟨k7, n7, A5, m5, e5, A6, m6, e6, A7, m7, e7, rfl, rfl, rfl, rfl, rfl⟩ := hob.shp; have HOB := Lib.hid hob; have HX7 := Lib.hid hx7; have HO7 := Lib.hid ho7; clear hob hx7 ho7))
            have hk7 := kind_c0 HOB.out
            have HK7 : Hid (k7 = X.kind) := Lib.hid (by injection hk7)
            have hb8 := (Below.refl w7.heap.size w7).alloc (Nat.le_refl _) (.cells #[.int .i64 k7, .int .i64 n7, .slice A5 m5 e5, .slice A6 m6 e6, .slice A7 m7 e7] 27)
            have hn8 := heap_alloc_new w7 (.cells #[.int .i64 k7, .int .i64 n7, .slice A5 m5 e5, .slice A6 m6 e6, .slice A7 m7 e7] 27)
            obtain ⟨w8, hw8⟩ : ∃ w8, w7.alloc (.cells #[.int .i64 k7, .int .i64 n7, .slice A5 m5 e5, .slice A6 m6 e6, .slice A7 m7 e7] 27) = w8 := ⟨_, rfl⟩
            rw [hw8] at hb8 hn8
            rw [hw8]
            have c0 : w8.cell? ⟨w7.heap.size, 0, none⟩ = some (.int .i64 k7) := cell_of_row _ _ 0 _ _ (0, 0) hn8
            have c1 : w8.cell? ⟨w7.heap.size, 1, none⟩ = some (.int .i64 n7) := cell_of_row _ _ 1 _ _ (0, 0) hn8
            have c2 : w8.cell? ⟨w7.heap.size, 2, none⟩ = some (.slice A5 m5 e5) := cell_of_row _ _ 2 _ _ (0, 0) hn8
            have c3 : w8.cell? ⟨w7.heap.size, 3, none⟩ = some (.slice A6 m6 e6) := cell_of_row _ _ 3 _ _ (0, 0) hn8
            have c4 : w8.cell? ⟨w7.heap.size, 4, none⟩ = some (.slice A7 m7 e7) := cell_of_row _ _ 4 _ _ (0, 0) hn8
            have HB8 := Lib.hid hb8
            have HX8 := Lib.hid (HX7.out.low hb8)
            have HO8 := Lib.hid ((HO6.out.trans HO7.out).trans (Only.of_below hb8 g))
            have HM8 := Lib.hid ((HM6.out.keep (HO7.out.block _ HM6.out.lt (Nat.ne_of_gt HLT.out.2.2))).keep (hb8.block _ (Nat.lt_of_lt_of_le HM6.out.lt HO7.out.size)))
            have HFE : Hid ((fun t => hasK t (l.snoc s X)) = (fun t => hasK t l || decide (s = t))) := Lib.hid (funext fun t => hasK_snoc t l s X)
            have HBZ8 : Hid (w.heap.size + 1 ≤ w8.heap.size) := Lib.hid (Nat.le_trans HBZ6.out (Nat.le_trans HO7.out.size hb8.size))
            clear hk7 hb8 hn8 hw8
            go_wp2_with fail
            go_ret2
            rw [← HPR.out]
            exact ⟨none, 0, .nil, rfl, fun h => absurd h HE.out, fun _ => rfl, ensV_nil _ _, HX8.out, HO8.out⟩
    · rw [if_pos he] at hpr
      have HPR := Lib.hid hpr
      have heb : (e == 0) = false := beq_eq_false_iff_ne.2 he
      have HE := Lib.hid he
      clear hpr hpq hvl hgt he
      go_wp2_with (first
        | (go_at_call 50; refine HTK.out.mono ?_; (rintro r w3 ⟨A3, l3, c3, rfl, hx3, ho3, hy3, hf3⟩); have HX3 := Lib.hid hx3; have HO3 := Lib.hid ho3; clear hx3 ho3 hy3 hf3))
      go_ret2
      rw [← HPR.out]
      exact ⟨none, 0, .nil, rfl, fun h => absurd h HE.out, fun _ => rfl, ensV_nil _ _, HX3.out.alloc _, (HOq.out.trans HO3.out).alloc _⟩
end

section
open Go.RowKit
set_option linter.unusedVariables false
set_option maxRecDepth 100000
theorem parC (m h g : Nat) (A : Option Addr) (n c d : Nat) (zs : List Int) : ∀ F, ItsC m h g A n c d zs F ∧ EnsC12 m h g A n c d zs F ∧ ValC m h g A n c d zs F := by
  intro F
  induction F using Nat.strongRecOn with
  | _ F ih =>
    refine ⟨itemsC F fun f hf => ⟨(ih f hf).1, (ih f hf).2.1⟩, entriesC F fun f hf => (ih f hf).2.2, ?_⟩
    cases F with
    | zero => exact fun _ _ _ _ _ hf => absurd hf (Nat.not_lt_zero _)
    | succ f => exact valueC f ⟨(ih f (Nat.lt_succ_self f)).1, (ih f (Nat.lt_succ_self f)).2.1⟩
/-- How deep one may go. -/
def dpZ (d : Int) : Nat := if d < 0 then 0 else if 28 < d then 28 else d.toNat
theorem dpZ_le (d : Int) : dpZ d ≤ 28 := by unfold dpZ; split <;> (try split) <;> omega
theorem emptyC {w : World} {m h g n c d p : Nat} {A : Option Addr} {zs : List Int} (x : PX w m h g A n c d zs p) :
    Calls Tryz.prog 26 #[.pointer (some ⟨m, 0, none⟩)] w fun r w' => r = .returned (.bool false) ∧ w = w' := by
  have k0 := x.k0
  clear x
  go_enter Tryz.func26, Tryz.ntmps26
  go_wp2_with fail
  go_ret
  exact ⟨rfl, rfl⟩
theorem pnewC (A : Option Addr) (n c : Nat) (d : Int) (zs : List Int) (w : World) (hb : Byt w w.heap.size A n c zs) (hn : n ≤ 900000) (hd : -9223372036854775808 ≤ d ∧ d ≤ 9223372036854775807) :
    Calls Tryz.prog 10 #[.slice A n c, .int .i64 d] w fun r w' => r = .returned (.pointer (some ⟨w.heap.size + 2, 0, none⟩)) ∧ PX w' (w.heap.size + 2) (w.heap.size + 1) w.heap.size A n c (dpZ d) zs 0 ∧ Below w.heap.size w w' := by
  have HLN := Lib.hid (plnewC A n c w)
  have HB := Lib.hid hb
  have HNN := Lib.hid hn
  have fin : ∀ (w2 : World) (D : Nat), LX w2 (w.heap.size + 1) w.heap.size A n c 0 → w2.heap.size = w.heap.size + 2 → Below w.heap.size w w2 → PX (w2.alloc (.cells #[.pointer (some ⟨w.heap.size + 1, 0, none⟩), .int .i64 D] 66)) (w.heap.size + 2) (w.heap.size + 1) w.heap.size A n c D zs 0 ∧ Below w.heap.size w (w2.alloc (.cells #[.pointer (some ⟨w.heap.size + 1, 0, none⟩), .int .i64 D] 66)) := by
    intro w2 D hl hs hbl
    have h1 := (Below.refl w2.heap.size w2).alloc (Nat.le_refl _) (.cells #[.pointer (some ⟨w.heap.size + 1, 0, none⟩), .int .i64 D] 66)
    have h2 := heap_alloc_new w2 (.cells #[.pointer (some ⟨w.heap.size + 1, 0, none⟩), .int .i64 D] 66)
    rw [hs] at h2
    have h3 := hbl.trans (h1.mono hbl.size)
    exact ⟨⟨h2, hl.below h1 hl.lt hl.cu.lt, hb.below h3 (Nat.le_refl _), by omega, hn⟩, h3⟩
  have HFIN := Lib.hid fin
  clear hb hn fin
  unfold dpZ
  by_cases h1 : d < 0
  · rw [if_pos h1]
    have m1 : max d 0 = 0 := by omega
    have m2 : min (0 : Int) 28 = 0 := by omega
    clear hd
    go_enter Tryz.func10, Tryz.ntmps10
    go_wp2_with (first
      | (go_at_call 25; refine HLN.out.mono ?_; (rintro r w2 ⟨rfl, hl2, hs2, hb2⟩); have HL2 := Lib.hid hl2; have HS2 := Lib.hid hs2; have HB2 := Lib.hid hb2; clear hl2 hs2 hb2))
    go_ret
    exact ⟨by rw [HS2.out]; rfl, HFIN.out _ 0 HL2.out HS2.out HB2.out⟩
  · rw [if_neg h1]
    by_cases h2 : 28 < d
    · rw [if_pos h2]
      have m1 : max d 0 = d := by omega
      have m2 : min d 28 = 28 := by omega
      clear hd
      go_enter Tryz.func10, Tryz.ntmps10
      go_wp2_with (first
        | (go_at_call 25; refine HLN.out.mono ?_; (rintro r w2 ⟨rfl, hl2, hs2, hb2⟩); have HL2 := Lib.hid hl2; have HS2 := Lib.hid hs2; have HB2 := Lib.hid hb2; clear hl2 hs2 hb2))
      go_ret
      exact ⟨by rw [HS2.out]; rfl, HFIN.out _ 28 HL2.out HS2.out HB2.out⟩
    · rw [if_neg h2]
      obtain ⟨D, rfl⟩ : ∃ D : Nat, d = (D : Int) := ⟨d.toNat, by omega⟩
      rw [Int.toNat_natCast]
      have m1 : max (D : Int) 0 = (D : Int) := by omega
      have m2 : min (D : Int) 28 = (D : Int) := by omega
      clear hd
      go_enter Tryz.func10, Tryz.ntmps10
      go_wp2_with (first
        | (go_at_call 25; refine HLN.out.mono ?_; (rintro r w2 ⟨rfl, hl2, hs2, hb2⟩); have HL2 := Lib.hid hl2; have HS2 := Lib.hid hs2; have HB2 := Lib.hid hb2; clear hl2 hs2 hb2))
      go_ret
      exact ⟨by rw [HS2.out]; rfl, HFIN.out _ D HL2.out HS2.out HB2.out⟩
/-- Value. -/
theorem pValueC {w : World} {m h g n c d p : Nat} {A : Option Addr} {zs : List Int} (f : Nat) (x : PX w m h g A n c d zs p) (hd : d ≤ 28) (hf : n - p < f) :
    Calls Tryz.prog 21 #[.pointer (some ⟨m, 0, none⟩)] w (VaP m h g A n c d zs w (parF zs f .val d p)) := by
  have hx0 := x.alloc (.cells #[.int .i64 0, .int .i64 0, .slice none 0 0, .slice none 0 0, .slice none 0 0] 27)
  have ho0 := (Only.refl g w).alloc (.cells #[.int .i64 0, .int .i64 0, .slice none 0 0, .slice none 0 0, .slice none 0 0] 27)
  have hr0 := RsB.new w
  obtain ⟨W0, hW0⟩ : ∃ W0, w.alloc (.cells #[.int .i64 0, .int .i64 0, .slice none 0 0, .slice none 0 0, .slice none 0 0] 27) = W0 := ⟨_, rfl⟩
  rw [hW0] at hx0 ho0 hr0
  have HVL := Lib.hid ((parC m h g A n c d zs f).2.2 d W0 p (by omega) hx0 hf)
  have HEM := Lib.hid (emptyC hx0)
  have HWB : Hid (w.heap.size ≤ w.heap.size) := Lib.hid (Nat.le_refl _)
  have HLT : Hid (m < w.heap.size ∧ h < w.heap.size ∧ g < w.heap.size) := Lib.hid ⟨x.lt, x.lx.lt, x.lx.cu.lt⟩
  have k1 := hx0.k1
  have HO0 := Lib.hid ho0
  have HR0 := Lib.hid hr0
  have HW0 := Lib.hid hW0
  obtain ⟨R, hR⟩ : ∃ R, parF zs f .val d p = R := ⟨_, rfl⟩
  rw [hR] at HVL ⊢
  obtain ⟨E, X, q5⟩ := R
  clear hx0 ho0 hr0 hW0 x hR hd hf
  go_enter Tryz.func21, Tryz.ntmps21
  go_upto_region 1 with fail
  rw [HW0.out]
  go_wp2_with (first
    | (go_at_call 26; refine HEM.out.mono ?_; (rintro r w1 ⟨rfl, rfl⟩))
    | (go_at_call 38; refine HVL.out.mono ?_; (rintro r w5 ⟨d0, d1, d2, d3, d4, hrr, hob, hx5, ho5⟩); (try dsimp only at hrr hob hx5); subst hrr; obtain ⟨k5, n5, A5, m5, e5, A6, m6, e6, A7, m7, e7, rfl, rfl, rfl, rfl, rfl⟩ := hob.shp; have HRF := Lib.hid (HR0.out.only ho5 HLT.out.2.2); obtain ⟨r0, r1, r2, r3, r4, r5⟩ := zero_cells HRF.out; have HF := Lib.hid (RsB.finN (w := w) HR0.out HRF.out HWB.out hob hx5 (HO0.out.trans ho5) HLT.out); clear hob hx5 ho5))
  refine bodyPost_ret (results_cell_row_tmp rfl _ _ w.heap.size 27 _ (0, 0) _ rfl HF.out.row Tryz.underlying27 rfl (by kernel_rfl) _ rfl) rfl ?_
  exact ⟨_, _, _, _, _, rfl, HF.out.ob, HF.out.px, HF.out.on⟩
/-- At. -/
theorem pAtC {w : World} {m h g n c d p : Nat} {A : Option Addr} {zs : List Int} (x : PX w m h g A n c d zs p) :
    Calls Tryz.prog 15 #[.pointer (some ⟨m, 0, none⟩)] w fun r w' => r = .returned (.int .i64 p) ∧ w = w' := by
  have k0 := x.k0
  have j0 := x.lx.k0
  have HEM := Lib.hid (emptyC x)
  have HPS := Lib.hid (ppsC x)
  clear x
  go_enter Tryz.func15, Tryz.ntmps15
  go_wp2_with (first
    | (go_at_call 26; refine HEM.out.mono ?_; (rintro r w1 ⟨rfl, rfl⟩))
    | (go_at_call 35; refine HPS.out.mono ?_; (rintro r w1 ⟨rfl, rfl⟩)))
  go_ret
  exact ⟨rfl, rfl⟩
end

section
open Go.RowKit
set_option linter.unusedVariables false
set_option maxRecDepth 100000
/-- The one object that bytes say. -/
def allV (zs : List Int) (V : Rt) : Rt :=
  if V.e ≠ 0 then noR V.e 0
  else if blkP zs V.q < zs.length then noR 3 0 else ⟨0, V.x, 0⟩
def allR (zs : List Int) (d f : Nat) : Rt := allV zs (parF zs f .val d 0)
def AlP (w : World) (R : Rt) (r : Ending) (w' : World) : Prop :=
  ∃ d0 d1 d2 d3 d4, r = .returned (.tuple #[.agg #[d0, d1, d2, d3, d4], .int .i64 R.e]) ∧ ObR w' (nwT w w') R.x d0 d1 d2 d3 d4 ∧ Below w.heap.size w w'
structure FinA (w W : World) (b : Nat) (x : Ob) (d0 d1 d2 d3 d4 : Value) : Prop where
  row : (((((W.setCell ⟨b, 0, none⟩ d0).setCell ⟨b, 1, none⟩ d1).setCell ⟨b, 2, none⟩ d2).setCell ⟨b, 3, none⟩ d3).setCell ⟨b, 4, none⟩ d4).heap[b]? = some (.cells #[d0, d1, d2, d3, d4] 27 (0, 0))
  ob : ObR (((((W.setCell ⟨b, 0, none⟩ d0).setCell ⟨b, 1, none⟩ d1).setCell ⟨b, 2, none⟩ d2).setCell ⟨b, 3, none⟩ d3).setCell ⟨b, 4, none⟩ d4) (nwT w (((((W.setCell ⟨b, 0, none⟩ d0).setCell ⟨b, 1, none⟩ d1).setCell ⟨b, 2, none⟩ d2).setCell ⟨b, 3, none⟩ d3).setCell ⟨b, 4, none⟩ d4)) x d0 d1 d2 d3 d4
  bl : Below w.heap.size w (((((W.setCell ⟨b, 0, none⟩ d0).setCell ⟨b, 1, none⟩ d1).setCell ⟨b, 2, none⟩ d2).setCell ⟨b, 3, none⟩ d3).setCell ⟨b, 4, none⟩ d4)
theorem RsB.finA {w W : World} {b lo : Nat} {x : Ob} {d0 d1 d2 d3 d4 : Value} (r : RsB b W) (hwb : w.heap.size ≤ b) (hlo : b < lo) (hx : ObR W (fun y => lo ≤ y ∧ y < W.heap.size) x d0 d1 d2 d3 d4) (hb : Below w.heap.size w W) : FinA w W b x d0 d1 d2 d3 d4 :=
  ⟨set5_row r, ObR.keep (fun y hy => heap_set5 (by omega)) (fun y hy => ⟨by omega, by rw [size_set5]; exact hy.2⟩) x hx, below_set5 hb hwb⟩
theorem RsB.lowB {b B : Nat} {W W' : World} (r : RsB b W) (hb : Below B W W') (h : b < B) : RsB b W' := (hb.block _ h).trans r
set_option maxHeartbeats 2000000 in
theorem pAllC (A : Option Addr) (n c : Nat) (d : Int) (zs : List Int) (w : World) (f : Nat) (hy : Byt w w.heap.size A n c zs) (hn : n ≤ 900000) (hd : -9223372036854775808 ≤ d ∧ d ≤ 9223372036854775807) (hf : n < f) :
    Calls Tryz.prog 9 #[.slice A n c, .int .i64 d] w (AlP w (allR zs (dpZ d) f)) := by
  have hb0 := (Below.refl w.heap.size w).alloc (Nat.le_refl _) (.cells #[.int .i64 0, .int .i64 0, .slice none 0 0, .slice none 0 0, .slice none 0 0] 27)
  have hr0 := RsB.new w
  obtain ⟨W0, hW0⟩ : ∃ W0, w.alloc (.cells #[.int .i64 0, .int .i64 0, .slice none 0 0, .slice none 0 0, .slice none 0 0] 27) = W0 := ⟨_, rfl⟩
  rw [hW0] at hb0 hr0
  have hs0 := hb0.size
  have HNW := Lib.hid (pnewC A n c d zs W0 ((hy.below hb0 (Nat.le_refl _)).more hb0.size) hn hd)
  have HZL := Lib.hid hy.len
  have HNN := Lib.hid hn
  have HVL := Lib.hid (fun W m h g (x : PX W m h g A n c (dpZ d) zs 0) => pValueC f x (dpZ_le d) (by omega))
  have HR0 := Lib.hid hr0
  have HB0 := Lib.hid hb0
  have HW0 := Lib.hid hW0
  have HNO := Lib.hid (fun W => noneC W)
  unfold allR
  have hq := parF_q zs f .val (dpZ d) 0
  obtain ⟨V, hV⟩ : ∃ V, parF zs f .val (dpZ d) 0 = V := ⟨_, rfl⟩
  rw [hV] at HVL ⊢
  obtain ⟨E, X, q5⟩ := V
  obtain ⟨K, hK⟩ : ∃ K, blkP zs q5 = K := ⟨_, rfl⟩
  have HKB := Lib.hid hK
  obtain ⟨R, hR⟩ : ∃ R, allV zs ⟨E, X, q5⟩ = R := ⟨_, rfl⟩
  have HAR := Lib.hid hR
  rw [hR]
  clear hR
  clear hy hb0 hr0 hW0 hs0 hV hq hK hn hd
  go_enter Tryz.func9, Tryz.ntmps9
  go_upto_region 1 with fail
  rw [HW0.out]
  go_upto_region 2 with (first
    | (go_at_call 10; refine HNW.out.mono ?_; (rintro r w1 ⟨rfl, hx1, hb1⟩); have HX1 := Lib.hid hx1; have HB1 := Lib.hid hb1; clear hx1 hb1))
  have hml : W0.heap.size + 2 < w1.heap.size := HX1.out.lt
  have HML := Lib.hid hml
  clear hml
  obtain ⟨m, hm⟩ : ∃ m, W0.heap.size + 2 = m := ⟨_, rfl⟩
  obtain ⟨h, hh⟩ : ∃ h, W0.heap.size + 1 = h := ⟨_, rfl⟩
  obtain ⟨g, hg⟩ : ∃ g, W0.heap.size = g := ⟨_, rfl⟩
  rw [hm, hh, hg] at HX1
  rw [hm]
  have HG := Lib.hid hg
  clear hm hh hg
  go_upto_region 3 with (first
    | (go_at_call 21; refine (HVL.out _ _ _ _ HX1.out).mono ?_; (rintro r w5 ⟨d0, d1, d2, d3, d4, hrr, hob, hx5, ho5⟩); (try dsimp only at hrr hob hx5); subst hrr; obtain ⟨k5, n5, A5, m5, e5, A6, m6, e6, A7, m7, e7, rfl, rfl, rfl, rfl, rfl⟩ := hob.shp; have HOX := Lib.hid hob; have HX5 := Lib.hid hx5; have HO5 := Lib.hid ho5; clear hob hx5 ho5))
  have hb8 := (Below.refl w5.heap.size w5).alloc (Nat.le_refl _) (.cells #[.int .i64 k5, .int .i64 n5, .slice A5 m5 e5, .slice A6 m6 e6, .slice A7 m7 e7] 27)
  have hn8 := heap_alloc_new w5 (.cells #[.int .i64 k5, .int .i64 n5, .slice A5 m5 e5, .slice A6 m6 e6, .slice A7 m7 e7] 27)
  obtain ⟨w8, hw8⟩ : ∃ w8, w5.alloc (.cells #[.int .i64 k5, .int .i64 n5, .slice A5 m5 e5, .slice A6 m6 e6, .slice A7 m7 e7] 27) = w8 := ⟨_, rfl⟩
  rw [hw8] at hb8 hn8
  rw [hw8]
  have HN8 := Lib.hid hn8
  have HX8 := Lib.hid (HX5.out.low hb8)
  have hgw : W0.heap.size ≤ g := Nat.le_of_eq HG.out
  have hgl : W0.heap.size ≤ w1.heap.size := HB1.out.size
  have hbl8 := (HB1.out.trans (HO5.out.belowB hgw (Nat.le_of_lt HX1.out.lx.cu.lt))).trans (hb8.mono (Nat.le_trans hgl HO5.out.size))
  have HBL8 := Lib.hid hbl8
  have HR8 := Lib.hid (HR0.out.low hbl8)
  have HOX8 := Lib.hid (ObR.keep (S' := fun y => W0.heap.size ≤ y ∧ y < w8.heap.size ∧ y < w5.heap.size ∧ y ≠ g) (fun b hb => hb8.block b hb.2) (fun b hb => ⟨Nat.le_trans hgl hb.1, Nat.lt_of_lt_of_le hb.2 hb8.size, hb.2, Nat.ne_of_gt (Nat.lt_of_lt_of_le HX1.out.lx.cu.lt hb.1)⟩) _ HOX.out)
  have HSZ := Lib.hid hb8.size
  clear hb8 hn8 hw8 hbl8 hgw hgl
  by_cases hE : E = 0
  · subst hE
    have HBK := Lib.hid (pblankC h g n c q5 g A zs w8 HX8.out.lx HX8.out.bt (Nat.le_refl _) (by have := HNN.out; omega))
    have k0 := HX8.out.k0
    go_upto_region 6 with (first
      | (go_at_call 23; refine HBK.out.mono ?_; (rintro r w9 ⟨rfl, hl9, ho9⟩); have HL9 := Lib.hid hl9; have HO9 := Lib.hid ho9; clear hl9 ho9))
    have hbl9 := HBL8.out.trans (HO9.out.belowB (B := W0.heap.size) (Nat.le_of_eq HG.out) (Nat.le_of_lt HX8.out.lx.cu.lt))
    have HR9 := Lib.hid (HR0.out.low hbl9)
    have HBW := Lib.hid (HB0.out.trans (hbl9.mono HB0.out.size))
    have k9 : w9.cell? ⟨m, 0, none⟩ = some (.pointer (some ⟨h, 0, none⟩)) := by
      rw [HO9.out.cell (p := ⟨m, 0, none⟩) HX8.out.lt HX8.out.ne]; exact HX8.out.k0
    have j9 := HL9.out.k0
    have hkn : K ≤ n := by have := HL9.out.pl; rw [HKB.out] at this; exact this
    have hlf := left_any g n c _ A w9 HL9.out.cu HL9.out.pl (by have := HNN.out; omega)
    rw [HKB.out] at hlf
    have HLF := Lib.hid hlf
    clear hlf k0
    by_cases hK2 : K < n
    · obtain rfl : R = noR 3 0 := by rw [← HAR.out]; unfold allV; rw [if_neg (fun h => h rfl), if_pos (by rw [HKB.out, HZL.out]; exact hK2)]
      have gK : (n : Int) - K > 0 := by omega
      go_wp2_with (first
        | (go_at_call 24; refine HLF.out.mono ?_; (rintro r wA ⟨rfl, rfl⟩))
        | (go_at_call 22; refine (HNO.out _).mono ?_; (rintro r wB ⟨rfl, hbB⟩); have HRF := Lib.hid (HR9.out.low hbB); obtain ⟨r0, r1, r2, r3, r4, r5⟩ := zero_cells HRF.out; have HBB := Lib.hid (HBW.out.trans (hbB.mono HBW.out.size)); clear hbB))
      have HF := Lib.hid (HRF.out.finA (w := w) (Nat.le_refl _) (Nat.lt_succ_self _) (ob_nul _ _) HBB.out)
      refine bodyPost_ret (results_cell_row_tmp rfl _ _ w.heap.size 27 _ (0, 0) _ rfl HF.out.row Tryz.underlying27 rfl (by kernel_rfl) _ rfl) rfl ?_
      exact ⟨_, _, _, _, _, rfl, HF.out.ob, HF.out.bl⟩
    · obtain rfl : R = ⟨0, X, 0⟩ := by rw [← HAR.out]; unfold allV; rw [if_neg (fun h => h rfl), if_neg (by rw [HKB.out, HZL.out]; exact hK2)]
      have gK : ¬ (n : Int) - K > 0 := by omega
      have hn9 := (HO9.out.block w5.heap.size (row_lt _ _ _ HN8.out) (by have := HX1.out.lx.cu.lt; have := HO5.out.size; omega)).trans HN8.out
      have n0 := cell_of_row w9 w5.heap.size 0 _ _ (0, 0) hn9
      have n1 := cell_of_row w9 w5.heap.size 1 _ _ (0, 0) hn9
      have n2 := cell_of_row w9 w5.heap.size 2 _ _ (0, 0) hn9
      have n3 := cell_of_row w9 w5.heap.size 3 _ _ (0, 0) hn9
      have n4 := cell_of_row w9 w5.heap.size 4 _ _ (0, 0) hn9
      obtain ⟨r0, r1, r2, r3, r4, r5⟩ := zero_cells HR9.out
      have HF := Lib.hid (HR9.out.finA (w := w) (lo := W0.heap.size) (Nat.le_refl _) HR0.out.lt (ObR.keep (fun b hb => HO9.out.block b hb.2.1 hb.2.2.2) (fun b hb => ⟨hb.1, Nat.lt_of_lt_of_le hb.2.1 HO9.out.size⟩) _ HOX8.out) HBW.out)
      clear hn9
      go_wp2_with (first
        | (go_at_call 24; refine HLF.out.mono ?_; (rintro r wA ⟨rfl, rfl⟩)))
      refine bodyPost_ret (results_cell_row_tmp rfl _ _ w.heap.size 27 _ (0, 0) _ rfl HF.out.row Tryz.underlying27 rfl (by kernel_rfl) _ rfl) rfl ?_
      exact ⟨_, _, _, _, _, rfl, HF.out.ob, HF.out.bl⟩
  · obtain rfl : R = noR E 0 := by rw [← HAR.out]; unfold allV; rw [if_pos hE]
    have hEb : (E == 0) = false := beq_eq_false_iff_ne.2 hE
    have HBW := Lib.hid (HB0.out.trans (HBL8.out.mono HB0.out.size))
    clear hE
    go_wp2_with (first
      | (go_at_call 22; refine (HNO.out _).mono ?_; (rintro r wB ⟨rfl, hbB⟩); have HRF := Lib.hid (HR8.out.low hbB); obtain ⟨r0, r1, r2, r3, r4, r5⟩ := zero_cells HRF.out; have HBB := Lib.hid (HBW.out.trans (hbB.mono HBW.out.size)); clear hbB))
    have HF := Lib.hid (HRF.out.finA (w := w) (Nat.le_refl _) (Nat.lt_succ_self _) (ob_nul _ _) HBB.out)
    refine bodyPost_ret (results_cell_row_tmp rfl _ _ w.heap.size 27 _ (0, 0) _ rfl HF.out.row Tryz.underlying27 rfl (by kernel_rfl) _ rfl) rfl ?_
    exact ⟨_, _, _, _, _, rfl, HF.out.ob, HF.out.bl⟩
end

section
open Go.RowKit
set_option linter.unusedVariables false
set_option maxRecDepth 100000
abbrev zRW : List Int := [91, 49, 32, 48, 32, 82, 32, 50, 32, 48, 32, 110, 117, 108, 108, 93]
abbrev oRW : Ob := .mk 6 0 [] (.cons (.mk 9 1 [] .nil .nil) (.cons (.mk 2 2 [] .nil .nil) (.cons (.mk 2 0 [] .nil .nil) (.cons (.mk 0 0 [] .nil .nil) .nil)))) .nil
theorem allRW : allR zRW (dpZ 9) 20 = ⟨0, oRW, 0⟩ := by kernel_rfl
set_option maxHeartbeats 2000000 in
theorem awake_any12 (w : World) : Calls Tryz.prog 8 #[] w fun e w' => e = .returned (.bool true) ∧ Below w.heap.size w w' := by
  have hby := (byt_lit w (16, 17) zRW (by decide) 16 rfl _ rfl)
  have hbl := (Below.refl w.heap.size w).alloc (Nat.le_refl _) (.cells (List.map (Value.int .u8) zRW).toArray 5 (16, 17))
  obtain ⟨w1, hw1⟩ : ∃ w1, w.alloc (.cells (List.map (Value.int .u8) zRW).toArray 5 (16, 17)) = w1 := ⟨_, rfl⟩
  have hs1 : w1.heap.size = w.heap.size + 1 := by rw [← hw1]; simp
  rw [hw1, ← hs1] at hby
  rw [hw1] at hbl
  have hal := pAllC _ 16 16 9 zRW w1 20 hby (by omega) (by omega) (by omega)
  rw [allRW] at hal
  have HAL := Lib.hid hal
  have HBL := Lib.hid hbl
  have HW1 := Lib.hid hw1
  have kc := fun (w : World) (C : Array Value) (n c : Nat) => Lib.run_convert_bytes_const (P := Tryz.prog) w 23 5 C n c Tryz.underlying23 Tryz.underlying5
  clear hby hbl hs1 hw1 hal
  go_enter Tryz.func8, Tryz.ntmps8
  go_upto_region 2 with (first
    | (go_at_call 9; (try simp only [List.map] at HW1); rw [show (w.alloc _) = w1 from HW1.out]; refine HAL.out.mono ?_; (rintro r w5 ⟨d0, d1, d2, d3, d4, hrr, hob, hb5⟩); (try dsimp only at hrr hob); subst hrr; obtain ⟨k5, n5, A5, m5, e5, A6, m6, e6, A7, m7, e7, rfl, rfl, rfl, rfl, rfl⟩ := hob.shp; have HOX := Lib.hid hob; have HB5 := Lib.hid hb5; clear hob hb5))
  have hb8 := (Below.refl w5.heap.size w5).alloc (Nat.le_refl _) (.cells #[.int .i64 k5, .int .i64 n5, .slice A5 m5 e5, .slice A6 m6 e6, .slice A7 m7 e7] 27)
  have hn8 := heap_alloc_new w5 (.cells #[.int .i64 k5, .int .i64 n5, .slice A5 m5 e5, .slice A6 m6 e6, .slice A7 m7 e7] 27)
  obtain ⟨w8, hw8⟩ : ∃ w8, w5.alloc (.cells #[.int .i64 k5, .int .i64 n5, .slice A5 m5 e5, .slice A6 m6 e6, .slice A7 m7 e7] 27) = w8 := ⟨_, rfl⟩
  rw [hw8] at hb8 hn8
  rw [hw8]
  have hox := ObR.keep (S' := fun y => y < w8.heap.size) (fun b hb => hb8.block b hb.2) (fun b hb => Nat.lt_of_lt_of_le hb.2 hb8.size) _ HOX.out
  have n0 := cell_of_row w8 w5.heap.size 0 _ _ (0, 0) hn8
  have n3 := cell_of_row w8 w5.heap.size 3 _ _ (0, 0) hn8
  have HBE := Lib.hid ((HBL.out.trans (HB5.out.mono HBL.out.size)).trans (hb8.mono (Nat.le_trans HBL.out.size HB5.out.size)))
  clear hn8 hw8 hb8
  unfold ObR at hox
  obtain ⟨e0, -, -, -, -, ⟨AL, cL, e3, hcL, hLL⟩, -⟩ := hox
  injection e0 with _ e0
  injection e3 with e31 e32 e33
  subst e0 e31 e32 e33
  obtain ⟨g, o, rfl, _, hob⟩ := hLL (by decide)
  obtain ⟨a0, a1, a2, a3, a4, x0, _, _, _, _, hx0⟩ := ObsR.get _ g o 0 _ hob rfl
  obtain ⟨b0, b1, b2, b3, b4, _, y1, _, _, _, hx1⟩ := ObsR.get _ g o 1 _ hob rfl
  obtain ⟨c0, c1, c2, c3, c4, z0, _, _, _, _, hx3⟩ := ObsR.get _ g o 3 _ hob rfl
  unfold ObR at hx0 hx1 hx3
  obtain ⟨rfl, -⟩ := hx0
  obtain ⟨-, rfl, -⟩ := hx1
  obtain ⟨rfl, -⟩ := hx3
  have p0 : w8.cell? ⟨g, o, none⟩ = some (.int .i64 9) := x0
  have p1 : w8.cell? ⟨g, o + 5 + 1, none⟩ = some (.int .i64 2) := y1
  have p3 : w8.cell? ⟨g, o + 15, none⟩ = some (.int .i64 0) := z0
  clear hob hLL x0 y1 z0
  go_wp2_with fail
  go_ret
  exact ⟨rfl, HBE.out⟩
end

section
open Go.RowKit
set_option linter.unusedVariables false
set_option maxRecDepth 100000
set_option maxHeartbeats 4000000 in
/-- body, if what stands there is no dictionary, or no stream behind it. -/
theorem bodyPlain {w : World} {m h g n c d p : Nat} {A : Option Addr} {zs : List Int} (f : Nat) (x : PX w m h g A n c d zs p) (hd : d ≤ 28) (hf : n - p < f)
    (hno : (parF zs f .val d p).e ≠ 0 ∨ (parF zs f .val d p).x.kind ≠ 7 ∨ kwB zs (parF zs f .val d p).q strStm = false) :
    Calls Tryz.prog 28 #[.pointer (some ⟨m, 0, none⟩)] w (VaP m h g A n c d zs w (parF zs f .val d p)) := by
  have hx0 := x.alloc (.cells #[.int .i64 0, .int .i64 0, .slice none 0 0, .slice none 0 0, .slice none 0 0] 27)
  have ho0 := (Only.refl g w).alloc (.cells #[.int .i64 0, .int .i64 0, .slice none 0 0, .slice none 0 0, .slice none 0 0] 27)
  have hr0 := RsB.new w
  obtain ⟨W0, hW0⟩ : ∃ W0, w.alloc (.cells #[.int .i64 0, .int .i64 0, .slice none 0 0, .slice none 0 0, .slice none 0 0] 27) = W0 := ⟨_, rfl⟩
  rw [hW0] at hx0 ho0 hr0
  have HVL := Lib.hid ((parC m h g A n c d zs f).2.2 d W0 p (by omega) hx0 hf)
  have HWB : Hid (w.heap.size ≤ w.heap.size) := Lib.hid (Nat.le_refl _)
  have HLT : Hid (m < w.heap.size ∧ h < w.heap.size ∧ g < w.heap.size) := Lib.hid ⟨x.lt, x.lx.lt, x.lx.cu.lt⟩
  have k1 := hx0.k1
  have HO0 := Lib.hid ho0
  have HR0 := Lib.hid hr0
  have HW0 := Lib.hid hW0
  obtain ⟨R, hR⟩ : ∃ R, parF zs f .val d p = R := ⟨_, rfl⟩
  rw [hR] at HVL hno ⊢
  obtain ⟨E, X, q5⟩ := R
  dsimp only at hno
  have HKW := Lib.hid (fun W (hW : PX W m h g A n c d zs q5) => pkwC hW strStm (by decide))
  clear hx0 ho0 hr0 hW0 x hR hd hf
  by_cases hE : E = 0
  · subst hE
    by_cases hk : X.kind = 7
    · have hkw : kwB zs q5 strStm = false := by
        rcases hno with h | h | h
        · exact absurd rfl h
        · exact absurd hk h
        · exact h
      have hkp : kwP zs q5 strStm = q5 := by unfold kwP; rw [if_neg (by rw [hkw]; decide)]
      rw [hkw, hkp] at HKW
      go_enter Tryz.func28, Tryz.ntmps28
      go_upto_region 1 with fail
      rw [HW0.out]
      go_upto_region 2 with (first
        | (go_at_call 38; refine HVL.out.mono ?_; (rintro r w5 ⟨d0, d1, d2, d3, d4, hrr, hob, hx5, ho5⟩); (try dsimp only at hrr hob hx5); subst hrr; obtain ⟨k5, n5, A5, m5, e5, A6, m6, e6, A7, m7, e7, rfl, rfl, rfl, rfl, rfl⟩ := hob.shp; have HOB := Lib.hid hob; have HX5 := Lib.hid hx5; have HO5 := Lib.hid ho5; clear hob hx5 ho5))
      have hk5 := kind_c0 HOB.out
      have hkk : k5 = X.kind := by injection hk5
      have hb6 := (Below.refl w5.heap.size w5).alloc (Nat.le_refl _) (.cells #[.int .i64 k5, .int .i64 n5, .slice A5 m5 e5, .slice A6 m6 e6, .slice A7 m7 e7] 27)
      have hn6 := heap_alloc_new w5 (.cells #[.int .i64 k5, .int .i64 n5, .slice A5 m5 e5, .slice A6 m6 e6, .slice A7 m7 e7] 27)
      obtain ⟨w6, hw6⟩ : ∃ w6, w5.alloc (.cells #[.int .i64 k5, .int .i64 n5, .slice A5 m5 e5, .slice A6 m6 e6, .slice A7 m7 e7] 27) = w6 := ⟨_, rfl⟩
      rw [hw6] at hb6 hn6
      rw [hw6]
      have HN6 := Lib.hid hn6
      have HX6 := Lib.hid (HX5.out.low hb6)
      have HO6 := Lib.hid ((HO0.out.trans HO5.out).trans (Only.of_below hb6 g))
      have HOB6 := Lib.hid (ObR.keep (S' := nwT W0 w6) (fun y hy => hb6.block y hy.2) (fun y hy => ⟨hy.1, Nat.lt_of_lt_of_le hy.2 hb6.size⟩) _ HOB.out)
      have HR6 := Lib.hid ((HR0.out.only HO5.out HLT.out.2.2).low hb6)
      have n0 := cell_of_row w6 w5.heap.size 0 _ _ (0, 0) hn6
      have n1 := cell_of_row w6 w5.heap.size 1 _ _ (0, 0) hn6
      have n2 := cell_of_row w6 w5.heap.size 2 _ _ (0, 0) hn6
      have n3 := cell_of_row w6 w5.heap.size 3 _ _ (0, 0) hn6
      have n4 := cell_of_row w6 w5.heap.size 4 _ _ (0, 0) hn6
      clear hb6 hn6 hw6 hk5
      rw [hk] at hkk
      subst hkk
      have k6 := HX6.out.k0
      go_upto_region 3 with (first
        | (go_at_call 46; refine (HKW.out _ HX6.out).mono ?_; (rintro r w7 ⟨rfl, hx7, ho7⟩); have HX7 := Lib.hid hx7; have HO7 := Lib.hid ho7; clear hx7 ho7))
      have hn7 := (HO7.out.block _ (row_lt _ _ _ HN6.out) (by have := HX5.out.lx.cu.lt; omega)).trans HN6.out
      clear n0 n1 n2 n3 n4
      have n0 := cell_of_row w7 w5.heap.size 0 _ _ (0, 0) hn7
      have n1 := cell_of_row w7 w5.heap.size 1 _ _ (0, 0) hn7
      have n2 := cell_of_row w7 w5.heap.size 2 _ _ (0, 0) hn7
      have n3 := cell_of_row w7 w5.heap.size 3 _ _ (0, 0) hn7
      have n4 := cell_of_row w7 w5.heap.size 4 _ _ (0, 0) hn7
      have HRF := Lib.hid (HR6.out.only HO7.out HLT.out.2.2)
      have hob7 := ObR.keep (S' := nwT W0 w7) (fun y hy => HO7.out.block y hy.2 (by have h1 := hy.1; have h2 := HR0.out.lt; have h3 := HLT.out.2.2; omega)) (fun y hy => ⟨hy.1, Nat.lt_of_lt_of_le hy.2 HO7.out.size⟩) _ HOB6.out
      have HF := Lib.hid (RsB.finN (w := w) HR0.out HRF.out HWB.out hob7 HX7.out (HO6.out.trans HO7.out) HLT.out)
      obtain ⟨r0, r1, r2, r3, r4, r5⟩ := zero_cells HRF.out
      clear hn7 hob7
      go_wp2_with fail
      refine bodyPost_ret (results_cell_row_tmp rfl _ _ w.heap.size 27 _ (0, 0) _ rfl HF.out.row Tryz.underlying27 rfl (by kernel_rfl) _ rfl) rfl ?_
      exact ⟨_, _, _, _, _, rfl, HF.out.ob, HF.out.px, HF.out.on⟩
    · clear hno HKW
      go_enter Tryz.func28, Tryz.ntmps28
      go_upto_region 1 with fail
      rw [HW0.out]
      go_upto_region 2 with (first
        | (go_at_call 38; refine HVL.out.mono ?_; (rintro r w5 ⟨d0, d1, d2, d3, d4, hrr, hob, hx5, ho5⟩); (try dsimp only at hrr hob hx5); subst hrr; obtain ⟨k5, n5, A5, m5, e5, A6, m6, e6, A7, m7, e7, rfl, rfl, rfl, rfl, rfl⟩ := hob.shp; have HOB := Lib.hid hob; have HX5 := Lib.hid hx5; have HO5 := Lib.hid ho5; clear hob hx5 ho5))
      have hk5 := kind_c0 HOB.out
      have hkk : k5 = X.kind := by injection hk5
      have hb6 := (Below.refl w5.heap.size w5).alloc (Nat.le_refl _) (.cells #[.int .i64 k5, .int .i64 n5, .slice A5 m5 e5, .slice A6 m6 e6, .slice A7 m7 e7] 27)
      have hn6 := heap_alloc_new w5 (.cells #[.int .i64 k5, .int .i64 n5, .slice A5 m5 e5, .slice A6 m6 e6, .slice A7 m7 e7] 27)
      obtain ⟨w6, hw6⟩ : ∃ w6, w5.alloc (.cells #[.int .i64 k5, .int .i64 n5, .slice A5 m5 e5, .slice A6 m6 e6, .slice A7 m7 e7] 27) = w6 := ⟨_, rfl⟩
      rw [hw6] at hb6 hn6
      rw [hw6]
      have HN6 := Lib.hid hn6
      have HX6 := Lib.hid (HX5.out.low hb6)
      have HO6 := Lib.hid ((HO0.out.trans HO5.out).trans (Only.of_below hb6 g))
      have HOB6 := Lib.hid (ObR.keep (S' := nwT W0 w6) (fun y hy => hb6.block y hy.2) (fun y hy => ⟨hy.1, Nat.lt_of_lt_of_le hy.2 hb6.size⟩) _ HOB.out)
      have HR6 := Lib.hid ((HR0.out.only HO5.out HLT.out.2.2).low hb6)
      have n0 := cell_of_row w6 w5.heap.size 0 _ _ (0, 0) hn6
      have n1 := cell_of_row w6 w5.heap.size 1 _ _ (0, 0) hn6
      have n2 := cell_of_row w6 w5.heap.size 2 _ _ (0, 0) hn6
      have n3 := cell_of_row w6 w5.heap.size 3 _ _ (0, 0) hn6
      have n4 := cell_of_row w6 w5.heap.size 4 _ _ (0, 0) hn6
      clear hb6 hn6 hw6 hk5
      have hkn : (k5 != 7) = true := by rw [bne, beq_eq_false_iff_ne.2 (by rw [hkk]; exact hk)]; rfl
      have HF := Lib.hid (RsB.finN (w := w) HR0.out HR6.out HWB.out HOB6.out HX6.out HO6.out HLT.out)
      obtain ⟨r0, r1, r2, r3, r4, r5⟩ := zero_cells HR6.out
      clear hkk hk
      go_wp2_with fail
      refine bodyPost_ret (results_cell_row_tmp rfl _ _ w.heap.size 27 _ (0, 0) _ rfl HF.out.row Tryz.underlying27 rfl (by kernel_rfl) _ rfl) rfl ?_
      exact ⟨_, _, _, _, _, rfl, HF.out.ob, HF.out.px, HF.out.on⟩
  · have hEb : (E == 0) = false := beq_eq_false_iff_ne.2 hE
    have hEn : (E != 0) = true := by rw [bne, hEb]; rfl
    clear hno HKW hE
    go_enter Tryz.func28, Tryz.ntmps28
    go_upto_region 1 with fail
    rw [HW0.out]
    go_upto_region 2 with (first
      | (go_at_call 38; refine HVL.out.mono ?_; (rintro r w5 ⟨d0, d1, d2, d3, d4, hrr, hob, hx5, ho5⟩); (try dsimp only at hrr hob hx5); subst hrr; obtain ⟨k5, n5, A5, m5, e5, A6, m6, e6, A7, m7, e7, rfl, rfl, rfl, rfl, rfl⟩ := hob.shp; have HOB := Lib.hid hob; have HX5 := Lib.hid hx5; have HO5 := Lib.hid ho5; clear hob hx5 ho5))
    have hk5 := kind_c0 HOB.out
    have hkk : k5 = X.kind := by injection hk5
    have hb6 := (Below.refl w5.heap.size w5).alloc (Nat.le_refl _) (.cells #[.int .i64 k5, .int .i64 n5, .slice A5 m5 e5, .slice A6 m6 e6, .slice A7 m7 e7] 27)
    have hn6 := heap_alloc_new w5 (.cells #[.int .i64 k5, .int .i64 n5, .slice A5 m5 e5, .slice A6 m6 e6, .slice A7 m7 e7] 27)
    obtain ⟨w6, hw6⟩ : ∃ w6, w5.alloc (.cells #[.int .i64 k5, .int .i64 n5, .slice A5 m5 e5, .slice A6 m6 e6, .slice A7 m7 e7] 27) = w6 := ⟨_, rfl⟩
    rw [hw6] at hb6 hn6
    rw [hw6]
    have HN6 := Lib.hid hn6
    have HX6 := Lib.hid (HX5.out.low hb6)
    have HO6 := Lib.hid ((HO0.out.trans HO5.out).trans (Only.of_below hb6 g))
    have HOB6 := Lib.hid (ObR.keep (S' := nwT W0 w6) (fun y hy => hb6.block y hy.2) (fun y hy => ⟨hy.1, Nat.lt_of_lt_of_le hy.2 hb6.size⟩) _ HOB.out)
    have HR6 := Lib.hid ((HR0.out.only HO5.out HLT.out.2.2).low hb6)
    have n0 := cell_of_row w6 w5.heap.size 0 _ _ (0, 0) hn6
    have n1 := cell_of_row w6 w5.heap.size 1 _ _ (0, 0) hn6
    have n2 := cell_of_row w6 w5.heap.size 2 _ _ (0, 0) hn6
    have n3 := cell_of_row w6 w5.heap.size 3 _ _ (0, 0) hn6
    have n4 := cell_of_row w6 w5.heap.size 4 _ _ (0, 0) hn6
    clear hb6 hn6 hw6 hk5
    have HF := Lib.hid (RsB.finN (w := w) HR0.out HR6.out HWB.out HOB6.out HX6.out HO6.out HLT.out)
    obtain ⟨r0, r1, r2, r3, r4, r5⟩ := zero_cells HR6.out
    clear hkk
    go_wp2_with fail
    refine bodyPost_ret (results_cell_row_tmp rfl _ _ w.heap.size 27 _ (0, 0) _ rfl HF.out.row Tryz.underlying27 rfl (by kernel_rfl) _ rfl) rfl ?_
    exact ⟨_, _, _, _, _, rfl, HF.out.ob, HF.out.px, HF.out.on⟩
end

section
open Go.RowKit
set_option linter.unusedVariables false
set_option maxRecDepth 100000
theorem PX.set1 {w : World} {m h g n c d p b : Nat} {A : Option Addr} {zs : List Int} (x : PX w m h g A n c d zs p) (hm : m < b) (hh : h < b) (hg : g < b) (i : Nat) (v : Value) : PX (w.setCell ⟨b, i, none⟩ v) m h g A n c d zs p :=
  ⟨(set_blk9 w b i m v (Nat.ne_of_lt hm)).trans x.ps, x.lx.keep2 (set_blk9 w b i h v (Nat.ne_of_lt hh)) (set_blk9 w b i g v (Nat.ne_of_lt hg)),
   ⟨x.bt.len, x.bt.cap, x.bt.rng, fun hn => by
    obtain ⟨b', o, e, hlt, hc⟩ := x.bt.cell hn
    exact ⟨b', o, e, hlt, fun j hj => (World.cell?_of_block (a := ⟨b', o + j, none⟩) (set_blk9 w b i b' v (by omega))).trans (hc j hj)⟩⟩, x.ne, x.sm⟩
/-- The state of body: the parser, the answer's block, the object's box. -/
structure BsS (w W : World) (m h g : Nat) (A : Option Addr) (n c d : Nat) (zs : List Int) (q bo : Nat) (tl : List Value) : Prop where
  px : PX W m h g A n c d zs q
  on : Only g w W
  rs : RsB w.heap.size W
  tb : W.heap[bo]? = some (.cells tl.toArray 27 (0, 0))
  lt : m < w.heap.size ∧ h < w.heap.size ∧ g < w.heap.size
  bb : w.heap.size < bo
section
variable {w W W' : World} {m h g n c d q q' bo : Nat} {A : Option Addr} {zs : List Int} {tl : List Value}
theorem BsS.only (s : BsS w W m h g A n c d zs q bo tl) (hp : PX W' m h g A n c d zs q') (ho : Only g W W') : BsS w W' m h g A n c d zs q' bo tl :=
  ⟨hp, s.on.trans ho, s.rs.only ho s.lt.2.2, (ho.block _ (row_lt _ _ _ s.tb) (Nat.ne_of_gt (Nat.lt_trans s.lt.2.2 s.bb))).trans s.tb, s.lt, s.bb⟩
theorem BsS.low (s : BsS w W m h g A n c d zs q bo tl) (hb : Below W.heap.size W W') : BsS w W' m h g A n c d zs q bo tl :=
  s.only (s.px.low hb) (Only.of_below hb g)
theorem BsS.setT (s : BsS w W m h g A n c d zs q bo tl) (i : Nat) (v : Value) : BsS w (W.setCell ⟨bo, i, none⟩ v) m h g A n c d zs q bo (tl.set i v) :=
  have hb := s.bb
  have hl := s.lt
  ⟨s.px.set1 (by omega) (by omega) (by omega) i v, s.on.setN (by omega) i v, (set_blk9 W bo i _ v (by omega)).trans s.rs, heap_set W bo i v tl _ s.tb, s.lt, s.bb⟩
theorem BsS.fr (s : BsS w W m h g A n c d zs q bo tl) (i : Nat) : W.frozen? ⟨bo, i, none⟩ = false := by
  have := s.tb
  simp [World.frozen?, this]
end
set_option maxHeartbeats 4000000 in
theorem bodyStm {w : World} {m h g n c d p : Nat} {A : Option Addr} {zs : List Int} (f : Nat) (x : PX w m h g A n c d zs p) (hd : d ≤ 28) (hf : n - p < f)
    (hyes : stmB zs (parF zs f .val d p) = true) :
    Calls Tryz.prog 28 #[.pointer (some ⟨m, 0, none⟩)] w (VaP m h g A n c d zs w (strT zs (parF zs f .val d p))) := by
  have hg := parF_g zs f .val d p x.pz trivial
  have hzl := x.len
  have hsm := x.sm
  have hx0 := x.alloc (.cells #[.int .i64 0, .int .i64 0, .slice none 0 0, .slice none 0 0, .slice none 0 0] 27)
  have ho0 := (Only.refl g w).alloc (.cells #[.int .i64 0, .int .i64 0, .slice none 0 0, .slice none 0 0, .slice none 0 0] 27)
  have hr0 := RsB.new w
  obtain ⟨W0, hW0⟩ : ∃ W0, w.alloc (.cells #[.int .i64 0, .int .i64 0, .slice none 0 0, .slice none 0 0, .slice none 0 0] 27) = W0 := ⟨_, rfl⟩
  rw [hW0] at hx0 ho0 hr0
  have HVL := Lib.hid ((parC m h g A n c d zs f).2.2 d W0 p (by omega) hx0 hf)
  have HWB : Hid (w.heap.size ≤ w.heap.size) := Lib.hid (Nat.le_refl _)
  have HLT : Hid (m < w.heap.size ∧ h < w.heap.size ∧ g < w.heap.size) := Lib.hid ⟨x.lt, x.lx.lt, x.lx.cu.lt⟩
  have k1 := hx0.k1
  have HO0 := Lib.hid ho0
  have HR0 := Lib.hid hr0
  have HW0 := Lib.hid hW0
  obtain ⟨R, hR⟩ : ∃ R, parF zs f .val d p = R := ⟨_, rfl⟩
  rw [hR] at HVL hyes hg ⊢
  obtain ⟨E, X, q5⟩ := R
  obtain ⟨kx, nx, bx, lx, dx⟩ := X
  unfold stmB at hyes
  simp only [Bool.and_eq_true, decide_eq_true_eq] at hyes
  obtain ⟨hE, hkx, hkw⟩ := hyes
  subst hE
  have hkx : kx = 7 := hkx
  subst hkx
  obtain ⟨hp1, hp2, hp3, hp4, hp5, hp6, hp7⟩ := g_parts hg
  have hmd : mdH d .val = d + 1 := rfl
  rw [hmd] at hp3 hp7
  have HKW := Lib.hid (fun W (hW : PX W m h g A n c d zs q5) => pkwC hW strStm (by decide))
  rw [hkw] at HKW
  obtain ⟨RR, hRR⟩ : ∃ RR, strT zs ⟨0, .mk 7 nx bx lx dx, q5⟩ = RR := ⟨_, rfl⟩
  rw [hRR]
  obtain ⟨K, hK⟩ : ∃ K, kwP zs q5 strStm = K := ⟨_, rfl⟩
  rw [hK] at HKW
  have HGT := Lib.hid (fun (W : World) (S : Nat → Prop) c0 c1 c2 c3 c4 (hob : ObR W S (.mk 7 nx bx lx dx) c0 c1 c2 c3 c4) (hS : ∀ y, S y → y < W.heap.size) => pGetC zs.length (.mk 7 nx bx lx dx) strLen S W c0 c1 c2 c3 c4 hob hS (by rw [keyedE, if_pos (.inl rfl)]; exact hp2) (by rw [keyedE, if_pos (.inl rfl)]; have : zs.length * htE dx ≤ 900000 * 29 := Nat.mul_le_mul (by omega) (by omega); omega) (by rw [keyedE, if_pos (.inl rfl)]; omega))
  have HDR := Lib.hid (fun (W : World) (S : Nat → Prop) c0 c1 c2 c3 c4 (AK : Option Addr) (cK : Nat) (hob : ObR W S (.mk 7 nx bx lx dx) c0 c1 c2 c3 c4) (hS : ∀ y, S y → y < W.heap.size) (hKv : KeysV W AK [strLen]) => pDropC zs.length nx bx lx dx [strLen] AK cK S W c0 c1 c2 c3 c4 hob hS hKv (by decide) (fun t ht => by rw [List.mem_singleton] at ht; subst ht; decide) (fun t ht => Nat.le_trans (hp4 t ht) (by decide)) (by omega) hp6 (by have := hp7 (by omega); have : zs.length * htO (.mk 7 nx bx lx (dropE [strLen] dx)) ≤ 900000 * 30 := Nat.mul_le_mul (by omega) (by omega); omega))
  have hlo : lenO (.mk 7 nx bx lx dx) = getF (.mk 7 nx bx lx dx) strLen := rfl
  rw [← hlo] at HGT
  obtain ⟨G, hG⟩ : ∃ G, lenO (.mk 7 nx bx lx dx) = G := ⟨_, rfl⟩
  obtain ⟨gk, gn, gb, gl, gd⟩ := G
  rw [hG] at HGT
  have hzz := dataT_len zs K gk gn
  have HDT := Lib.hid (fun W (hW : PX W m h g A n c d zs K) c2 c3 c4 => dataC hW gk gn c2 c3 c4)
  obtain ⟨DT, hDT⟩ : ∃ DT, dataT zs K gk gn = DT := ⟨_, rfl⟩
  obtain ⟨E2, Z2, Q2⟩ := DT
  rw [hDT] at HDT hzz
  have hval : (if E2 ≠ 0 then noR E2 Q2 else (⟨0, .mk 8 nx Z2 lx (dropE [strLen] dx), Q2⟩ : Rt)) = RR := by
    have h2 : dataT zs K (Ob.mk gk gn gb gl gd).kind (Ob.mk gk gn gb gl gd).num = (E2, Z2, Q2) := hDT
    rw [← hRR]; unfold strT; rw [hK, hG, h2]; rfl
  have HRR := Lib.hid hval
  dsimp only at hzz
  have HZ2 : Hid (Z2.length ≤ 1000000) := Lib.hid (by omega)
  clear hx0 ho0 hr0 hW0 x hR hd hf hg hp1 hp2 hp3 hp4 hp5 hp6 hp7 hmd hkw hK hlo hG hDT hzz hzl hsm hval hRR
  go_enter Tryz.func28, Tryz.ntmps28
  go_upto_region 1 with fail
  rw [HW0.out]
  go_upto_region 2 with (first
    | (go_at_call 38; refine HVL.out.mono ?_; (rintro r w5 ⟨d0, d1, d2, d3, d4, hrr, hob, hx5, ho5⟩); (try dsimp only at hrr hob hx5); subst hrr; obtain ⟨k5, n5, A5, m5, e5, A6, m6, e6, A7, m7, e7, rfl, rfl, rfl, rfl, rfl⟩ := hob.shp; have HOB := Lib.hid hob; have HX5 := Lib.hid hx5; have HO5 := Lib.hid ho5; clear hob hx5 ho5))
  have hk5 := kind_c0 HOB.out
  have hkk : k5 = 7 := by injection hk5
  subst hkk
  have hb6 := (Below.refl w5.heap.size w5).alloc (Nat.le_refl _) (.cells #[.int .i64 7, .int .i64 n5, .slice A5 m5 e5, .slice A6 m6 e6, .slice A7 m7 e7] 27)
  have hn6 := heap_alloc_new w5 (.cells #[.int .i64 7, .int .i64 n5, .slice A5 m5 e5, .slice A6 m6 e6, .slice A7 m7 e7] 27)
  obtain ⟨w6, hw6⟩ : ∃ w6, w5.alloc (.cells #[.int .i64 7, .int .i64 n5, .slice A5 m5 e5, .slice A6 m6 e6, .slice A7 m7 e7] 27) = w6 := ⟨_, rfl⟩
  rw [hw6] at hb6 hn6
  rw [hw6]
  obtain ⟨bo, hbo⟩ : ∃ bo, w5.heap.size = bo := ⟨_, rfl⟩
  have HBO : Hid (w.heap.size < bo ∧ g < bo) := Lib.hid (by rw [← hbo]; have h1 := HR0.out.lt; have h2 := HO5.out.size; have h3 := HLT.out.2.2; omega)
  have hx6 := HX5.out.low hb6
  have HX6 := Lib.hid hx6
  have HO6 := Lib.hid ((HO0.out.trans HO5.out).trans (Only.of_below hb6 g))
  have HOB6 := Lib.hid (ObR.keep (S' := fun y => w.heap.size < y ∧ y < bo) (fun y hy => hb6.block y hy.2) (fun y hy => ⟨Nat.lt_of_lt_of_le HR0.out.lt hy.1, by rw [← hbo]; exact hy.2⟩) _ HOB.out)
  have HR6 := Lib.hid ((HR0.out.only HO5.out HLT.out.2.2).low hb6)
  rw [hbo] at hn6
  rw [hbo]
  have HN6 := Lib.hid hn6
  have n0 := cell_of_row w6 bo 0 _ _ (0, 0) hn6
  have n1 := cell_of_row w6 bo 1 _ _ (0, 0) hn6
  have n2 := cell_of_row w6 bo 2 _ _ (0, 0) hn6
  have n3 := cell_of_row w6 bo 3 _ _ (0, 0) hn6
  have n4 := cell_of_row w6 bo 4 _ _ (0, 0) hn6
  have k6 := hx6.k0
  clear hb6 hn6 hw6 hk5 hx6 hbo
  go_upto_region 4 with (first
    | (go_at_call 46; refine (HKW.out _ HX6.out).mono ?_; (rintro r w7 ⟨rfl, hx7, ho7⟩); have HX7 := Lib.hid hx7; have HO7 := Lib.hid ho7; clear hx7 ho7))
  have hn7 := (HO7.out.block _ (row_lt _ _ _ HN6.out) (Nat.ne_of_gt HBO.out.2)).trans HN6.out
  have HOB7 := Lib.hid (ObR.keep (S' := fun y => w.heap.size < y ∧ y < bo) (fun y hy => HO7.out.block y (Nat.lt_trans hy.2 (row_lt _ _ _ HN6.out)) (Nat.ne_of_gt (Nat.lt_trans HLT.out.2.2 hy.1))) (fun y hy => hy) _ HOB6.out)
  have HR7 := Lib.hid (HR6.out.only HO7.out HLT.out.2.2)
  have HN7 := Lib.hid hn7
  have HB7 : Hid (bo < w7.heap.size) := Lib.hid (row_lt _ _ _ hn7)
  have HO7W := Lib.hid (HO6.out.trans HO7.out)
  clear n0 n1 n2 n3 n4 k6
  have n0 := cell_of_row w7 bo 0 _ _ (0, 0) hn7
  have n1 := cell_of_row w7 bo 1 _ _ (0, 0) hn7
  have n2 := cell_of_row w7 bo 2 _ _ (0, 0) hn7
  have n3 := cell_of_row w7 bo 3 _ _ (0, 0) hn7
  have n4 := cell_of_row w7 bo 4 _ _ (0, 0) hn7
  clear hn7
  go_upto_region 5 with (first
    | (go_at_call 48; refine (HGT.out _ _ _ _ _ _ _ HOB7.out (fun y hy => Nat.lt_trans hy.2 HB7.out)).mono ?_; (rintro r w8 ⟨g0, g1, g2, g3, g4, hrr, hg8, hb8⟩); subst hrr; (unfold ObR at hg8); (obtain ⟨rfl, rfl, -, -, ⟨G2, l2, e2, rfl, -⟩, ⟨G3, e3, rfl, -⟩, ⟨G4, e4, rfl, -⟩⟩ := hg8); have HX8 := Lib.hid (HX7.out.low hb8); have HB8 := Lib.hid hb8; clear hb8)
    | (go_at_call 47; refine (HDT.out _ HX8.out _ _ _).mono ?_; (rintro r w9 ⟨A', l', c', hrr, hy9, hf9, hx9, ho9⟩); (try dsimp only at hrr hy9 hx9); subst hrr; have HY9 := Lib.hid hy9; have HF9 := Lib.hid hf9; have HX9 := Lib.hid hx9; have HO9 := Lib.hid ho9; clear hy9 hf9 hx9 ho9))
  have hs9 : BsS w w9 m h g A n c d zs Q2 bo [.int .i64 7, .int .i64 n5, .slice A5 m5 e5, .slice A6 m6 e6, .slice A7 m7 e7] :=
    BsS.only (W := w8) (q := K) (BsS.low (W := w7) ⟨HX7.out, HO7W.out, HR7.out, HN7.out, HLT.out, HBO.out.1⟩ HB8.out) HX9.out HO9.out
  have hob9 := ObR.keep (S' := fun y => w.heap.size < y ∧ y < bo) (fun y hy => HO9.out.block y (Nat.lt_of_lt_of_le (Nat.lt_trans hy.2 HB7.out) HB8.out.size) (Nat.ne_of_gt (Nat.lt_trans HLT.out.2.2 hy.1))) (fun y hy => hy) _ (ObR.keep (S' := fun y => w.heap.size < y ∧ y < bo) (fun y hy => HB8.out.block y (Nat.lt_trans hy.2 HB7.out)) (fun y hy => hy) _ HOB7.out)
  have hbz := byt_any (S := fun y => bo < y ∧ y < w9.heap.size) HY9.out HF9.out HZ2.out (fun y h1 h2 => ⟨by have := HB7.out; have := HB8.out.size; omega, h2⟩)
  have HS9 := Lib.hid hs9
  have HOB9 := Lib.hid hob9
  have HBZ := Lib.hid hbz
  clear hs9 hob9 hbz n0 n1 n2 n3 n4 HX9 HO9 HY9 HF9 HX8 HB8 HX7 HO7W HR7 HN7 HOB7 HB7 HO7 HR6 HOB6 HO6 HX6 HN6 HOB HX5 HO5 HR0 HO0 HGT HDT HKW HVL
  by_cases h2 : E2 = 0
  · subst h2
    have hrr : RR = ⟨0, .mk 8 nx Z2 lx (dropE [strLen] dx), Q2⟩ := by rw [← HRR.out, if_neg (fun h => h rfl)]
    subst hrr
    have n0 := cell_of_row w9 bo 0 _ _ (0, 0) HS9.out.tb
    have n1 := cell_of_row w9 bo 1 _ _ (0, 0) HS9.out.tb
    have n2 := cell_of_row w9 bo 2 _ _ (0, 0) HS9.out.tb
    have n3 := cell_of_row w9 bo 3 _ _ (0, 0) HS9.out.tb
    have n4 := cell_of_row w9 bo 4 _ _ (0, 0) HS9.out.tb
    have hbA := (Below.refl w9.heap.size w9).alloc (Nat.le_refl _) (.cells #[.string strLen] 9)
    have hkA := keys_one w9 strLen
    obtain ⟨wA, hwA⟩ : ∃ wA, w9.alloc (.cells #[.string strLen] 9) = wA := ⟨_, rfl⟩
    rw [hwA] at hbA hkA
    have HOBA := Lib.hid (ObR.keep (S' := fun y => w.heap.size < y ∧ y < bo) (fun y hy => hbA.block y (Nat.lt_trans hy.2 (row_lt _ _ _ HS9.out.tb))) (fun y hy => hy) _ HOB9.out)
    have HBA := Lib.hid hbA
    have HKA := Lib.hid hkA
    have hbt : Hid (bo < wA.heap.size) := Lib.hid (Nat.lt_of_lt_of_le (row_lt _ _ _ HS9.out.tb) hbA.size)
    unfold strLen at hwA
    have HWA := Lib.hid hwA
    clear hbA hkA hwA
    go_upto_region 7 with fail
    go_upto_region 8 with (first
      | (go_at_call 49; rw [HWA.out]; refine (HDR.out wA _ _ _ _ _ _ _ _ HOBA.out (fun y hy => Nat.lt_trans hy.2 hbt.out) HKA.out).mono ?_; (rintro r wB ⟨f0, f1, f2, f3, f4, hrr, hobB, hbB⟩); subst hrr; clear n0 n1 n2 n3 n4; (obtain ⟨kf, nf, F2, l2f, x2f, F3, l3f, x3f, F4, l4f, x4f, rfl, rfl, rfl, rfl, rfl⟩ := hobB.form); have HOBB := Lib.hid hobB; have HBB := Lib.hid hbB; have HSB := Lib.hid ((HS9.out.low HBA.out).low hbB); have n0 := cell_of_row wB bo 0 _ _ (0, 0) HSB.out.tb; have n1 := cell_of_row wB bo 1 _ _ (0, 0) HSB.out.tb; have n2 := cell_of_row wB bo 2 _ _ (0, 0) HSB.out.tb; have n3 := cell_of_row wB bo 3 _ _ (0, 0) HSB.out.tb; have n4 := cell_of_row wB bo 4 _ _ (0, 0) HSB.out.tb; have nf9 := HSB.out.fr; clear hobB hbB))
    have hsC := ((((HSB.out.setT 0 (.int .i64 kf)).setT 1 (.int .i64 nf)).setT 2 (.slice F2 l2f x2f)).setT 3 (.slice F3 l3f x3f)).setT 4 (.slice F4 l4f x4f)
    have hobC := ObR.keep (S' := fun y => bo < y ∧ y < wB.heap.size) (fun y hy => heap_set5 (W := wB) (g := bo) (x0 := .int .i64 kf) (x1 := .int .i64 nf) (x2 := .slice F2 l2f x2f) (x3 := .slice F3 l3f x3f) (x4 := .slice F4 l4f x4f) (Nat.ne_of_gt (Nat.lt_of_lt_of_le hbt.out hy.1))) (fun y hy => ⟨Nat.lt_of_lt_of_le hbt.out hy.1, hy.2⟩) _ HOBB.out
    have hbzC : BytS _ (fun y => bo < y ∧ y < wB.heap.size) A' l' c' Z2 := (HBZ.out.keep (w' := wA) (S' := fun y => bo < y ∧ y < wA.heap.size) (fun y hy => HBA.out.block y hy.2) (fun y hy => ⟨hy.1, Nat.lt_of_lt_of_le hy.2 HBA.out.size⟩)).keep (fun y hy => (heap_set5 (W := wB) (g := bo) (x0 := .int .i64 kf) (x1 := .int .i64 nf) (x2 := .slice F2 l2f x2f) (x3 := .slice F3 l3f x3f) (x4 := .slice F4 l4f x4f) (Nat.ne_of_gt hy.1)).trans (HBB.out.block y hy.2)) (fun y hy => ⟨hy.1, Nat.lt_of_lt_of_le hy.2 HBB.out.size⟩)
    have hszC : (((((wB.setCell ⟨bo, 0, none⟩ (.int .i64 kf)).setCell ⟨bo, 1, none⟩ (.int .i64 nf)).setCell ⟨bo, 2, none⟩ (.slice F2 l2f x2f)).setCell ⟨bo, 3, none⟩ (.slice F3 l3f x3f)).setCell ⟨bo, 4, none⟩ (.slice F4 l4f x4f)).heap.size = wB.heap.size := size_set5
    obtain ⟨wC, hwC⟩ : ∃ wC, ((((wB.setCell ⟨bo, 0, none⟩ (.int .i64 kf)).setCell ⟨bo, 1, none⟩ (.int .i64 nf)).setCell ⟨bo, 2, none⟩ (.slice F2 l2f x2f)).setCell ⟨bo, 3, none⟩ (.slice F3 l3f x3f)).setCell ⟨bo, 4, none⟩ (.slice F4 l4f x4f) = wC := ⟨_, rfl⟩
    rw [hwC] at hsC hobC hbzC hszC
    rw [hwC]
    dsimp only [List.set] at hsC
    clear n0 n1 n2 n3 n4 nf9 hwC
    have HSC := Lib.hid hsC
    have HOC := Lib.hid hobC
    have HZC := Lib.hid hbzC
    have HSZ := Lib.hid hszC
    have n0 := cell_of_row wC bo 0 _ _ (0, 0) hsC.tb
    have n2 := cell_of_row wC bo 2 _ _ (0, 0) hsC.tb
    have nf9 := hsC.fr
    clear hsC hobC hbzC hszC
    go_upto_region 9 with fail
    have hsD := (HSC.out.setT 0 (.int .i64 8)).setT 2 (.slice A' l' c')
    have hkD : ∀ y, y ≠ bo → ((wC.setCell ⟨bo, 0, none⟩ (.int .i64 8)).setCell ⟨bo, 2, none⟩ (.slice A' l' c')).heap[y]? = wC.heap[y]? := fun y hy => (set_blk9 _ bo 2 y _ hy).trans (set_blk9 wC bo 0 y _ hy)
    have hszD : ((wC.setCell ⟨bo, 0, none⟩ (.int .i64 8)).setCell ⟨bo, 2, none⟩ (.slice A' l' c')).heap.size = wC.heap.size := by simp [World.setCell]
    obtain ⟨wD, hwD⟩ : ∃ wD, (wC.setCell ⟨bo, 0, none⟩ (.int .i64 8)).setCell ⟨bo, 2, none⟩ (.slice A' l' c') = wD := ⟨_, rfl⟩
    rw [hwD] at hsD hkD hszD
    rw [hwD]
    dsimp only [List.set] at hsD
    clear n0 n2 nf9 hwD
    have hlt := HBO.out.1
    have hbzD := HZC.out.keep (w' := wD) (S' := fun y => (w.heap.size ≤ y ∧ y ≠ w.heap.size) ∧ y < wD.heap.size) (fun y hy => hkD y (Nat.ne_of_gt hy.1)) (fun y hy => ⟨⟨by omega, by omega⟩, by rw [hszD, HSZ.out]; exact hy.2⟩)
    have HF := Lib.hid (RsB.fin hsD.rs (Nat.le_refl _) (ob_stm HOC.out (fun y hy => hkD y (Nat.ne_of_gt hy.1)) (fun y hy => ⟨⟨by omega, by omega⟩, by rw [hszD, HSZ.out]; exact hy.2⟩) hbzD) hsD.px hsD.on HLT.out.1 HLT.out.2.1 HLT.out.2.2)
    have o0 := cell_of_row wD bo 0 _ _ (0, 0) hsD.tb
    have o1 := cell_of_row wD bo 1 _ _ (0, 0) hsD.tb
    have o2 := cell_of_row wD bo 2 _ _ (0, 0) hsD.tb
    have o3 := cell_of_row wD bo 3 _ _ (0, 0) hsD.tb
    have o4 := cell_of_row wD bo 4 _ _ (0, 0) hsD.tb
    obtain ⟨r0, r1, r2, r3, r4, r5⟩ := zero_cells hsD.rs
    clear hsD hkD hszD hlt hbzD
    go_wp2_with fail
    refine bodyPost_ret (results_cell_row_tmp rfl _ _ w.heap.size 27 _ (0, 0) _ rfl HF.out.row Tryz.underlying27 rfl (by kernel_rfl) _ rfl) rfl ?_
    exact ⟨_, _, _, _, _, rfl, HF.out.ob, HF.out.px, HF.out.on⟩
  · have hrr : RR = noR E2 Q2 := by rw [← HRR.out, if_pos h2]
    subst hrr
    have h2n : (E2 != 0) = true := by rw [bne, beq_eq_false_iff_ne.2 h2]; rfl
    clear h2
    go_wp2_with (first
      | (go_at_call 22; refine (pNone0 _).mono ?_; (rintro r wA ⟨rfl, hbA⟩); have HSA := Lib.hid (HS9.out.low hbA); (obtain ⟨r0, r1, r2, r3, r4, r5⟩ := zero_cells HSA.out.rs); have HF := Lib.hid (RsB.fin HSA.out.rs (Nat.le_refl _) (ob_nul _ _) HSA.out.px HSA.out.on HLT.out.1 HLT.out.2.1 HLT.out.2.2); clear hbA))
    refine bodyPost_ret (results_cell_row_tmp rfl _ _ w.heap.size 27 _ (0, 0) _ rfl HF.out.row Tryz.underlying27 rfl (by kernel_rfl) _ rfl) rfl ?_
    exact ⟨_, _, _, _, _, rfl, HF.out.ob, HF.out.px, HF.out.on⟩
/-- body. -/
theorem bodyC {w : World} {m h g n c d p : Nat} {A : Option Addr} {zs : List Int} (f : Nat) (x : PX w m h g A n c d zs p) (hd : d ≤ 28) (hf : n - p < f) :
    Calls Tryz.prog 28 #[.pointer (some ⟨m, 0, none⟩)] w (VaP m h g A n c d zs w (bodyT zs (parF zs f .val d p))) := by
  unfold bodyT
  by_cases hy : stmB zs (parF zs f .val d p) = true
  · rw [if_pos hy]; exact bodyStm f x hd hf hy
  · rw [if_neg hy]
    refine bodyPlain f x hd hf ?_
    unfold stmB at hy
    by_cases h1 : (parF zs f .val d p).e = 0
    · by_cases h2 : (parF zs f .val d p).x.kind = 7
      · refine .inr (.inr ?_)
        rw [decide_eq_true h1, decide_eq_true h2] at hy
        simpa using hy
      · exact .inr (.inl h2)
    · exact .inl h1
end

section
open Go.RowKit
set_option linter.unusedVariables false
set_option maxRecDepth 100000
/-- The answer's block of an item is there, and holds noughts. -/
def RsI (b : Nat) (W : World) : Prop := W.heap[b]? = some (.cells #[.int .i64 0, .int .i64 0, .int .i64 0, .slice none 0 0, .slice none 0 0, .slice none 0 0] 34 (0, 0))
abbrev set6 (W : World) (b : Nat) (x0 x1 x2 x3 x4 x5 : Value) : World := (((((W.setCell ⟨b, 0, none⟩ x0).setCell ⟨b, 1, none⟩ x1).setCell ⟨b, 2, none⟩ x2).setCell ⟨b, 3, none⟩ x3).setCell ⟨b, 4, none⟩ x4).setCell ⟨b, 5, none⟩ x5
def ItmP (m h g : Nat) (A : Option Addr) (n c d : Nat) (zs : List Int) (w : World) (R : It13) (r : Ending) (w' : World) : Prop :=
  ∃ d0 d1 d2 d3 d4, r = .returned (.tuple #[.agg #[.int .i64 R.num, d0, d1, d2, d3, d4], .int .i64 R.r.e]) ∧ ObR w' (nwT w w') R.r.x d0 d1 d2 d3 d4 ∧ PX w' m h g A n c d zs R.r.q ∧ Only g w w'
structure FinI (m h g : Nat) (A : Option Addr) (n c d : Nat) (zs : List Int) (w W : World) (b : Nat) (x : Ob) (q : Nat) (v d0 d1 d2 d3 d4 : Value) : Prop where
  row : (set6 W b v d0 d1 d2 d3 d4).heap[b]? = some (.cells #[v, d0, d1, d2, d3, d4] 34 (0, 0))
  ob : ObR (set6 W b v d0 d1 d2 d3 d4) (nwT w (set6 W b v d0 d1 d2 d3 d4)) x d0 d1 d2 d3 d4
  px : PX (set6 W b v d0 d1 d2 d3 d4) m h g A n c d zs q
  on : Only g w (set6 W b v d0 d1 d2 d3 d4)
section
variable {w W W' : World} {m h g n c d q b : Nat} {A : Option Addr} {zs : List Int} {x : Ob} {v d0 d1 d2 d3 d4 : Value}
theorem RsI.new (w : World) : RsI w.heap.size (w.alloc (.cells #[.int .i64 0, .int .i64 0, .int .i64 0, .slice none 0 0, .slice none 0 0, .slice none 0 0] 34)) := heap_alloc_new w _
theorem RsI.lt (r : RsI b W) : b < W.heap.size := row_lt W _ _ r
theorem RsI.only (r : RsI b W) (ho : Only g W W') (hg : g < b) : RsI b W' := (ho.block _ r.lt (Nat.ne_of_gt hg)).trans r
theorem RsI.low (r : RsI b W) (hb : Below W.heap.size W W') : RsI b W' := (hb.block _ r.lt).trans r
theorem RsI.cells (r : RsI b W) : W.cell? ⟨b, 0, none⟩ = some (.int .i64 0) ∧ W.cell? ⟨b, 1, none⟩ = some (.int .i64 0) ∧ W.cell? ⟨b, 2, none⟩ = some (.int .i64 0) ∧ W.cell? ⟨b, 3, none⟩ = some (.slice none 0 0) ∧ W.cell? ⟨b, 4, none⟩ = some (.slice none 0 0) ∧ W.cell? ⟨b, 5, none⟩ = some (.slice none 0 0) ∧ (∀ i, W.frozen? ⟨b, i, none⟩ = false) :=
  ⟨by rw [cell_of_row W b 0 _ _ (0, 0) r]; rfl, by rw [cell_of_row W b 1 _ _ (0, 0) r]; rfl, by rw [cell_of_row W b 2 _ _ (0, 0) r]; rfl, by rw [cell_of_row W b 3 _ _ (0, 0) r]; rfl, by rw [cell_of_row W b 4 _ _ (0, 0) r]; rfl, by rw [cell_of_row W b 5 _ _ (0, 0) r]; rfl, fun i => by have h : W.heap[b]? = _ := r; simp [World.frozen?, h]⟩
theorem size_set6' : (set6 W b v d0 d1 d2 d3 d4).heap.size = W.heap.size := by simp [World.setCell]
theorem RsI.fin (r : RsI b W) (hwb : w.heap.size ≤ b) (hx : ObR W (fun y => (w.heap.size ≤ y ∧ y ≠ b) ∧ y < W.heap.size) x d0 d1 d2 d3 d4) (hp : PX W m h g A n c d zs q) (ho : Only g w W) (hl : m < w.heap.size ∧ h < w.heap.size ∧ g < w.heap.size) : FinI m h g A n c d zs w W b x q v d0 d1 d2 d3 d4 :=
  have hm : m < b := Nat.lt_of_lt_of_le hl.1 hwb
  have hh : h < b := Nat.lt_of_lt_of_le hl.2.1 hwb
  have hg : g < b := Nat.lt_of_lt_of_le hl.2.2 hwb
  ⟨set6_row r, ObR.keep (fun y hy => heap_set6 hy.1.2) (fun y hy => ⟨hy.1.1, by rw [size_set6']; exact hy.2⟩) x hx,
   (((((hp.set1 hm hh hg 0 v).set1 hm hh hg 1 d0).set1 hm hh hg 2 d1).set1 hm hh hg 3 d2).set1 hm hh hg 4 d3).set1 hm hh hg 5 d4,
   (((((ho.setN hwb 0 v).setN hwb 1 d0).setN hwb 2 d1).setN hwb 3 d2).setN hwb 4 d3).setN hwb 5 d4⟩
end
set_option maxHeartbeats 4000000 in
theorem pItemC {w : World} {m h g n c d p : Nat} {A : Option Addr} {zs : List Int} (f : Nat) (x : PX w m h g A n c d zs p) (hd : d ≤ 28) (hf : n < f) :
    Calls Tryz.prog 11 #[.pointer (some ⟨m, 0, none⟩)] w (ItmP m h g A n c d zs w (itemT zs f d p)) := by
  have hx0 := x.alloc (.cells #[.int .i64 0, .int .i64 0, .int .i64 0, .slice none 0 0, .slice none 0 0, .slice none 0 0] 34)
  have ho0 := (Only.refl g w).alloc (.cells #[.int .i64 0, .int .i64 0, .int .i64 0, .slice none 0 0, .slice none 0 0, .slice none 0 0] 34)
  have hr0 := RsI.new w
  obtain ⟨W0, hW0⟩ : ∃ W0, w.alloc (.cells #[.int .i64 0, .int .i64 0, .int .i64 0, .slice none 0 0, .slice none 0 0, .slice none 0 0] 34) = W0 := ⟨_, rfl⟩
  rw [hW0] at hx0 ho0 hr0
  have HEM := Lib.hid (emptyC hx0)
  have HHD := Lib.hid (headC hx0)
  have HLT : Hid (m < w.heap.size ∧ h < w.heap.size ∧ g < w.heap.size) := Lib.hid ⟨x.lt, x.lx.lt, x.lx.cu.lt⟩
  have HO0 := Lib.hid ho0
  have HR0 := Lib.hid hr0
  have HW0 := Lib.hid hW0
  unfold itemT
  obtain ⟨H, hH⟩ : ∃ H, headT zs p = H := ⟨_, rfl⟩
  rw [hH] at HHD ⊢
  obtain ⟨N1, E1, Q1⟩ := H
  dsimp only at HHD ⊢
  have HBD := Lib.hid (fun W (hW : PX W m h g A n c d zs Q1) => bodyC f hW hd (by omega))
  obtain ⟨B, hB⟩ : ∃ B, bodyT zs (parF zs f .val d Q1) = B := ⟨_, rfl⟩
  rw [hB] at HBD ⊢
  obtain ⟨E2, X2, Q2⟩ := B
  dsimp only at HBD ⊢
  have HWD := Lib.hid (fun W (hW : PX W m h g A n c d zs Q2) => wordC hW strEnO)
  obtain ⟨T, hT⟩ : ∃ T, wrdT zs Q2 strEnO = T := ⟨_, rfl⟩
  rw [hT] at HWD ⊢
  obtain ⟨E3, Q3⟩ := T
  dsimp only at HWD ⊢
  clear hx0 ho0 hr0 hW0 x hH hB hT hd hf
  by_cases h1 : E1 = 0
  · subst h1
    rw [if_neg (fun h => h rfl)]
    by_cases h2 : E2 = 0
    · subst h2
      rw [if_neg (fun h => h rfl)]
      by_cases h3 : E3 = 0
      · subst h3
        rw [if_neg (fun h => h rfl)]
        go_enter Tryz.func11, Tryz.ntmps11
        go_upto_region 1 with fail
        rw [HW0.out]
        go_upto_region 4 with (first
          | (go_at_call 26; refine HEM.out.mono ?_; (rintro r w1 ⟨rfl, rfl⟩))
          | (go_at_call 27; refine HHD.out.mono ?_; (rintro r w2 ⟨rfl, hx2, ho2⟩); have HX2 := Lib.hid hx2; have HO2 := Lib.hid (HO0.out.trans ho2); have HR2 := Lib.hid (HR0.out.only ho2 HLT.out.2.2); clear hx2 ho2))
        go_upto_region 7 with (first
          | (go_at_call 28; refine (HBD.out _ HX2.out).mono ?_; (rintro r w5 ⟨d0, d1, d2, d3, d4, hrr, hob, hx5, ho5⟩); (try dsimp only at hrr hob hx5); subst hrr; obtain ⟨k5, n5, A5, m5, e5, A6, m6, e6, A7, m7, e7, rfl, rfl, rfl, rfl, rfl⟩ := hob.shp; have HOB := Lib.hid hob; have HX5 := Lib.hid hx5; have HO5 := Lib.hid ho5; clear hob hx5 ho5))
        have hb6 := (Below.refl w5.heap.size w5).alloc (Nat.le_refl _) (.cells #[.int .i64 k5, .int .i64 n5, .slice A5 m5 e5, .slice A6 m6 e6, .slice A7 m7 e7] 27)
        have hn6 := heap_alloc_new w5 (.cells #[.int .i64 k5, .int .i64 n5, .slice A5 m5 e5, .slice A6 m6 e6, .slice A7 m7 e7] 27)
        obtain ⟨w6, hw6⟩ : ∃ w6, w5.alloc (.cells #[.int .i64 k5, .int .i64 n5, .slice A5 m5 e5, .slice A6 m6 e6, .slice A7 m7 e7] 27) = w6 := ⟨_, rfl⟩
        rw [hw6] at hb6 hn6
        rw [hw6]
        have HX6 := Lib.hid (HX5.out.low hb6)
        have HO6 := Lib.hid ((HO2.out.trans HO5.out).trans (Only.of_below hb6 g))
        have HOB6 := Lib.hid (ObR.keep (S' := fun y => (w.heap.size ≤ y ∧ y ≠ w.heap.size) ∧ y < w5.heap.size) (fun y hy => hb6.block y hy.2) (fun y hy => ⟨⟨by have := HR2.out.lt; have := hy.1; omega, by have := HR2.out.lt; have := hy.1; omega⟩, hy.2⟩) _ HOB.out)
        have HR6 := Lib.hid ((HR2.out.only HO5.out HLT.out.2.2).low hb6)
        have HN6 := Lib.hid hn6
        have HG5 : Hid (w.heap.size < w5.heap.size) := Lib.hid (HR2.out.only HO5.out HLT.out.2.2).lt
        clear hb6 hn6 hw6
        go_upto_region 10 with (first
          | (go_at_call 29; refine (HWD.out _ HX6.out).mono ?_; (rintro r w7 ⟨rfl, hx7, ho7⟩); have HX7 := Lib.hid hx7; have HO7 := Lib.hid ho7; clear hx7 ho7))
        have HR7 := Lib.hid (HR6.out.only HO7.out HLT.out.2.2)
        have hn7 := (HO7.out.block _ (row_lt _ _ _ HN6.out) (by have := HG5.out; have := HLT.out.2.2; omega)).trans HN6.out
        have n0 := cell_of_row w7 w5.heap.size 0 _ _ (0, 0) hn7
        have n1 := cell_of_row w7 w5.heap.size 1 _ _ (0, 0) hn7
        have n2 := cell_of_row w7 w5.heap.size 2 _ _ (0, 0) hn7
        have n3 := cell_of_row w7 w5.heap.size 3 _ _ (0, 0) hn7
        have n4 := cell_of_row w7 w5.heap.size 4 _ _ (0, 0) hn7
        have hob7 := ObR.keep (S' := fun y => (w.heap.size ≤ y ∧ y ≠ w.heap.size) ∧ y < w7.heap.size) (fun y hy => HO7.out.block y (Nat.lt_trans hy.2 (row_lt _ _ _ HN6.out)) (by have := HLT.out.2.2; have := hy.1; omega)) (fun y hy => ⟨hy.1, Nat.lt_of_lt_of_le (Nat.lt_trans hy.2 (row_lt _ _ _ HN6.out)) HO7.out.size⟩) _ HOB6.out
        have HF := Lib.hid (RsI.fin (w := w) (v := .int .i64 N1) HR7.out (Nat.le_refl _) hob7 HX7.out (HO6.out.trans HO7.out) HLT.out)
        obtain ⟨r0, r1, r2, r3, r4, r5, r6⟩ := RsI.cells HR7.out
        clear hn7 hob7
        go_wp2_with fail
        refine bodyPost_ret (results_cell_row_tmp rfl _ _ w.heap.size 34 _ (0, 0) _ rfl HF.out.row Tryz.underlying34 rfl (by kernel_rfl) _ rfl) rfl ?_
        exact ⟨_, _, _, _, _, rfl, HF.out.ob, HF.out.px, HF.out.on⟩
      · rw [if_pos h3]
        have h3n : (E3 != 0) = true := by rw [bne, beq_eq_false_iff_ne.2 h3]; rfl
        clear h3
        go_enter Tryz.func11, Tryz.ntmps11
        go_upto_region 1 with fail
        rw [HW0.out]
        go_upto_region 4 with (first
          | (go_at_call 26; refine HEM.out.mono ?_; (rintro r w1 ⟨rfl, rfl⟩))
          | (go_at_call 27; refine HHD.out.mono ?_; (rintro r w2 ⟨rfl, hx2, ho2⟩); have HX2 := Lib.hid hx2; have HO2 := Lib.hid (HO0.out.trans ho2); have HR2 := Lib.hid (HR0.out.only ho2 HLT.out.2.2); clear hx2 ho2))
        go_upto_region 7 with (first
          | (go_at_call 28; refine (HBD.out _ HX2.out).mono ?_; (rintro r w5 ⟨d0, d1, d2, d3, d4, hrr, hob, hx5, ho5⟩); (try dsimp only at hrr hob hx5); subst hrr; obtain ⟨k5, n5, A5, m5, e5, A6, m6, e6, A7, m7, e7, rfl, rfl, rfl, rfl, rfl⟩ := hob.shp; have HOB := Lib.hid hob; have HX5 := Lib.hid hx5; have HO5 := Lib.hid ho5; clear hob hx5 ho5))
        have hb6 := (Below.refl w5.heap.size w5).alloc (Nat.le_refl _) (.cells #[.int .i64 k5, .int .i64 n5, .slice A5 m5 e5, .slice A6 m6 e6, .slice A7 m7 e7] 27)
        have hn6 := heap_alloc_new w5 (.cells #[.int .i64 k5, .int .i64 n5, .slice A5 m5 e5, .slice A6 m6 e6, .slice A7 m7 e7] 27)
        obtain ⟨w6, hw6⟩ : ∃ w6, w5.alloc (.cells #[.int .i64 k5, .int .i64 n5, .slice A5 m5 e5, .slice A6 m6 e6, .slice A7 m7 e7] 27) = w6 := ⟨_, rfl⟩
        rw [hw6] at hb6 hn6
        rw [hw6]
        have HX6 := Lib.hid (HX5.out.low hb6)
        have HO6 := Lib.hid ((HO2.out.trans HO5.out).trans (Only.of_below hb6 g))
        have HOB6 := Lib.hid (ObR.keep (S' := fun y => (w.heap.size ≤ y ∧ y ≠ w.heap.size) ∧ y < w5.heap.size) (fun y hy => hb6.block y hy.2) (fun y hy => ⟨⟨by have := HR2.out.lt; have := hy.1; omega, by have := HR2.out.lt; have := hy.1; omega⟩, hy.2⟩) _ HOB.out)
        have HR6 := Lib.hid ((HR2.out.only HO5.out HLT.out.2.2).low hb6)
        have HN6 := Lib.hid hn6
        have HG5 : Hid (w.heap.size < w5.heap.size) := Lib.hid (HR2.out.only HO5.out HLT.out.2.2).lt
        clear hb6 hn6 hw6
        go_upto_region 10 with (first
          | (go_at_call 29; refine (HWD.out _ HX6.out).mono ?_; (rintro r w7 ⟨rfl, hx7, ho7⟩); have HX7 := Lib.hid hx7; have HO7 := Lib.hid ho7; clear hx7 ho7))
        have HR7 := Lib.hid (HR6.out.only HO7.out HLT.out.2.2)
        have HF := Lib.hid (RsI.fin (w := w) (v := .int .i64 0) HR7.out (Nat.le_refl _) (ob_nul _ _) HX7.out (HO6.out.trans HO7.out) HLT.out)
        obtain ⟨r0, r1, r2, r3, r4, r5, r6⟩ := RsI.cells HR7.out
        go_wp2_with fail
        refine bodyPost_ret (results_cell_row_tmp rfl _ _ w.heap.size 34 _ (0, 0) _ rfl HF.out.row Tryz.underlying34 rfl (by kernel_rfl) _ rfl) rfl ?_
        exact ⟨_, _, _, _, _, rfl, HF.out.ob, HF.out.px, HF.out.on⟩
    · rw [if_pos h2]
      have h2n : (E2 != 0) = true := by rw [bne, beq_eq_false_iff_ne.2 h2]; rfl
      clear h2
      go_enter Tryz.func11, Tryz.ntmps11
      go_upto_region 1 with fail
      rw [HW0.out]
      go_upto_region 4 with (first
        | (go_at_call 26; refine HEM.out.mono ?_; (rintro r w1 ⟨rfl, rfl⟩))
        | (go_at_call 27; refine HHD.out.mono ?_; (rintro r w2 ⟨rfl, hx2, ho2⟩); have HX2 := Lib.hid hx2; have HO2 := Lib.hid (HO0.out.trans ho2); have HR2 := Lib.hid (HR0.out.only ho2 HLT.out.2.2); clear hx2 ho2))
      go_upto_region 7 with (first
        | (go_at_call 28; refine (HBD.out _ HX2.out).mono ?_; (rintro r w5 ⟨d0, d1, d2, d3, d4, hrr, hob, hx5, ho5⟩); (try dsimp only at hrr hob hx5); subst hrr; obtain ⟨k5, n5, A5, m5, e5, A6, m6, e6, A7, m7, e7, rfl, rfl, rfl, rfl, rfl⟩ := hob.shp; have HOB := Lib.hid hob; have HX5 := Lib.hid hx5; have HO5 := Lib.hid ho5; clear hob hx5 ho5))
      have hb6 := (Below.refl w5.heap.size w5).alloc (Nat.le_refl _) (.cells #[.int .i64 k5, .int .i64 n5, .slice A5 m5 e5, .slice A6 m6 e6, .slice A7 m7 e7] 27)
      have hn6 := heap_alloc_new w5 (.cells #[.int .i64 k5, .int .i64 n5, .slice A5 m5 e5, .slice A6 m6 e6, .slice A7 m7 e7] 27)
      obtain ⟨w6, hw6⟩ : ∃ w6, w5.alloc (.cells #[.int .i64 k5, .int .i64 n5, .slice A5 m5 e5, .slice A6 m6 e6, .slice A7 m7 e7] 27) = w6 := ⟨_, rfl⟩
      rw [hw6] at hb6 hn6
      rw [hw6]
      have HX6 := Lib.hid (HX5.out.low hb6)
      have HO6 := Lib.hid ((HO2.out.trans HO5.out).trans (Only.of_below hb6 g))
      have HOB6 := Lib.hid (ObR.keep (S' := fun y => (w.heap.size ≤ y ∧ y ≠ w.heap.size) ∧ y < w5.heap.size) (fun y hy => hb6.block y hy.2) (fun y hy => ⟨⟨by have := HR2.out.lt; have := hy.1; omega, by have := HR2.out.lt; have := hy.1; omega⟩, hy.2⟩) _ HOB.out)
      have HR6 := Lib.hid ((HR2.out.only HO5.out HLT.out.2.2).low hb6)
      have HN6 := Lib.hid hn6
      have HG5 : Hid (w.heap.size < w5.heap.size) := Lib.hid (HR2.out.only HO5.out HLT.out.2.2).lt
      clear hb6 hn6 hw6
      have HF := Lib.hid (RsI.fin (w := w) (v := .int .i64 0) HR6.out (Nat.le_refl _) (ob_nul _ _) HX6.out HO6.out HLT.out)
      obtain ⟨r0, r1, r2, r3, r4, r5, r6⟩ := RsI.cells HR6.out
      go_wp2_with fail
      refine bodyPost_ret (results_cell_row_tmp rfl _ _ w.heap.size 34 _ (0, 0) _ rfl HF.out.row Tryz.underlying34 rfl (by kernel_rfl) _ rfl) rfl ?_
      exact ⟨_, _, _, _, _, rfl, HF.out.ob, HF.out.px, HF.out.on⟩
  · rw [if_pos h1]
    have h1n : (E1 != 0) = true := by rw [bne, beq_eq_false_iff_ne.2 h1]; rfl
    clear h1
    go_enter Tryz.func11, Tryz.ntmps11
    go_upto_region 1 with fail
    rw [HW0.out]
    go_upto_region 4 with (first
      | (go_at_call 26; refine HEM.out.mono ?_; (rintro r w1 ⟨rfl, rfl⟩))
      | (go_at_call 27; refine HHD.out.mono ?_; (rintro r w2 ⟨rfl, hx2, ho2⟩); have HX2 := Lib.hid hx2; have HO2 := Lib.hid (HO0.out.trans ho2); have HR2 := Lib.hid (HR0.out.only ho2 HLT.out.2.2); clear hx2 ho2))
    have HF := Lib.hid (RsI.fin (w := w) (v := .int .i64 0) HR2.out (Nat.le_refl _) (ob_nul _ _) HX2.out HO2.out HLT.out)
    obtain ⟨r0, r1, r2, r3, r4, r5, r6⟩ := RsI.cells HR2.out
    go_wp2_with fail
    refine bodyPost_ret (results_cell_row_tmp rfl _ _ w.heap.size 34 _ (0, 0) _ rfl HF.out.row Tryz.underlying34 rfl (by kernel_rfl) _ rfl) rfl ?_
    exact ⟨_, _, _, _, _, rfl, HF.out.ob, HF.out.px, HF.out.on⟩
end
end Go.Proofs.YtpomkhcobpihmaaGreat
