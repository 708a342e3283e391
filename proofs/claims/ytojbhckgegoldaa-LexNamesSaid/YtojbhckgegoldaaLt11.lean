/- Chapter 11, the project's own: names. -/
import Derived.Test.YtojbhckgegoldaaLc11
namespace Go.Proofs.Ytojbhckgegoldaa
open Go.RowKit
set_option linter.unusedVariables false
set_option maxRecDepth 100000

/-- The second box. -/
theorem NS.start {w W0 : World} {h g n c p : Nat} {A : Option Addr} (k : Int) (hx : LX W0 h g A n c p) (ho : Only g w W0) (hb : Bx W0 w.heap.size 28 (.int .i64 0) (.int .i64 0) (.int .i64 0) (.slice none 0 0)) (hs : W0.heap.size = w.heap.size + 1) (hl : g < w.heap.size ∧ h < w.heap.size) :
    NS w (W0.alloc (.cells #[.int .i64 k, .int .i64 0, .int .i64 0, .slice none 0 0] 28)) h g A n c p k (.slice none 0 0) [] := by
  have hal := (Below.refl W0.heap.size W0).alloc (Nat.le_refl _) (.cells #[.int .i64 k, .int .i64 0, .int .i64 0, .slice none 0 0] 28)
  have hbn := Bx.new W0 28 (.int .i64 k) (.int .i64 0) (.int .i64 0) (.slice none 0 0)
  rw [hs] at hbn
  exact ⟨hx.below hal hx.lt hx.cu.lt, ho.trans (Only.of_below hal g), hb.below hal (by omega), hbn, Mine.nil _ _, hl.2, hl.1⟩
theorem nm_step (zs : List Int) (n : Nat) (hl : zs.length = n) (hr : ∀ z ∈ zs, 0 ≤ z ∧ z < 256) (f q : Nat) (out : List Int) (R : Int × List Int × Nat) (hR : nameF zs (f + 1) q out = R) (hg : regB (peekZ zs (q : Int)) = true) :
    q < n ∧ ((nmR zs n q).1 ≤ 0 ∧ R.1 = 4 ∨ 0 < (nmR zs n q).1 ∧ (nmR zs n q).1 < 256 ∧ q < (nmR zs n q).2 ∧ (nmR zs n q).2 ≤ n ∧ ((127 ≤ out.length ∧ R.1 = 3) ∨ (out.length < 127 ∧ nameF zs f (nmR zs n q).2 (out ++ [(nmR zs n q).1]) = R))) := by
  have hw : whB (peekZ zs (q : Int)) = false ∧ 0 ≤ peekZ zs (q : Int) := by
    unfold regB at hg
    simp at hg
    exact ⟨by simpa using hg.2.2, hg.2.1.1⟩
  have hq := peekZ_lt zs q hw.2
  have hbd := peekZ_bd zs hr (q : Int)
  refine ⟨by omega, ?_⟩
  have h0 : ¬ peekZ zs (q : Int) = 0 := fun e => by have := hw.1; rw [e] at this; cases this
  rw [nameF, if_neg (by rw [hg]; decide)] at hR
  unfold nmR
  rw [nxP_in (by omega : q < n)]
  by_cases h35 : peekZ zs (q : Int) = 35
  · rw [if_pos h35] at hR ⊢
    have b1 := dgZ_bd (peekZ zs ((q + 1 : Nat) : Int))
    by_cases d1 : dgZ (peekZ zs ((q + 1 : Nat) : Int)) < 0
    · rw [if_pos (.inl d1)] at hR
      rw [if_pos d1]
      exact .inl ⟨by omega, by rw [← hR]⟩
    · have hq1 := peekZ_lt zs (q + 1) (by
        have := peekZ_bd zs hr ((q + 1 : Nat) : Int)
        rcases Int.lt_or_le (peekZ zs ((q + 1 : Nat) : Int)) 0 with h | h
        · exact absurd (show dgZ (peekZ zs ((q + 1 : Nat) : Int)) < 0 by rw [show peekZ zs ((q + 1 : Nat) : Int) = -1 by omega]; decide) d1
        · exact h)
      rw [if_neg d1, nxP_in (by omega : q + 1 < n)]
      have b2 := dgZ_bd (peekZ zs ((q + 1 + 1 : Nat) : Int))
      by_cases d2 : dgZ (peekZ zs ((q + 1 + 1 : Nat) : Int)) < 0
      · rw [if_pos (.inr (.inl d2))] at hR
        rw [if_pos d2]
        exact .inl ⟨by omega, by rw [← hR]⟩
      · have hq2 := peekZ_lt zs (q + 1 + 1) (by
          have := peekZ_bd zs hr ((q + 1 + 1 : Nat) : Int)
          rcases Int.lt_or_le (peekZ zs ((q + 1 + 1 : Nat) : Int)) 0 with h | h
          · exact absurd (show dgZ (peekZ zs ((q + 1 + 1 : Nat) : Int)) < 0 by rw [show peekZ zs ((q + 1 + 1 : Nat) : Int) = -1 by omega]; decide) d2
          · exact h)
        rw [if_neg d2, nxP_in (by omega : q + 1 + 1 < n)]
        by_cases d3 : dgZ (peekZ zs ((q + 1 : Nat) : Int)) + dgZ (peekZ zs ((q + 1 + 1 : Nat) : Int)) = 0
        · rw [if_pos (.inr (.inr d3))] at hR
          exact .inl ⟨by dsimp only; omega, by rw [← hR]⟩
        · rw [if_neg (by rintro (h | h | h) <;> contradiction)] at hR
          refine .inr ⟨by dsimp only; omega, by dsimp only; omega, by dsimp only; omega, by dsimp only; omega, ?_⟩
          by_cases h127 : 127 ≤ out.length
          · rw [if_pos h127] at hR
            exact .inl ⟨h127, by rw [← hR]⟩
          · rw [if_neg h127] at hR
            exact .inr ⟨by omega, hR⟩
  · rw [if_neg h35] at hR ⊢
    refine .inr ⟨by dsimp only; omega, by dsimp only; omega, by dsimp only; omega, by dsimp only; omega, ?_⟩
    by_cases h127 : 127 ≤ out.length
    · rw [if_pos h127] at hR
      exact .inl ⟨h127, by rw [← hR]⟩
    · rw [if_neg h127] at hR
      exact .inr ⟨by omega, hR⟩
theorem nmR_le (zs : List Int) (n p : Nat) (h : p ≤ n) : (nmR zs n p).2 ≤ n := by
  have h1 := nxP_le h
  have h2 := nxP_le h1
  have h3 := nxP_le h2
  unfold nmR
  split
  · split
    · exact h3
    · split
      · exact h3
      · exact h3
  · exact h1

set_option maxHeartbeats 4000000 in
theorem pnameC (h g n c p B : Nat) (A : Option Addr) (zs : List Int) (w : World) (hx : LX w h g A n c p) (hb : Byt w B A n c zs) (hB : B ≤ g) (hn : n ≤ 1000000) :
    Calls Try.prog 47 #[.pointer (some ⟨h, 0, none⟩)] w (TkP h g A n c ⟨(nameF zs (zs.length + 1) p []).1, 4, 0, (nameF zs (zs.length + 1) p []).2.1, (nameF zs (zs.length + 1) p []).2.2⟩ w) := by
  have HB := Lib.hid hb
  have HGW := Lib.hid (Nat.le_of_lt hx.cu.lt)
  have HL := Lib.hid hb.len
  have HPL := Lib.hid hx.pl
  have hbx := Bx.new w 28 (.int .i64 0) (.int .i64 0) (.int .i64 0) (.slice none 0 0)
  have hb0 : Below w.heap.size w (w.alloc (.cells (tkC 0 0 0 none 0 0) 28)) := (Below.refl w.heap.size w).alloc (Nat.le_refl _) _
  obtain ⟨W0, hW0⟩ : ∃ W0, w.alloc (.cells (tkC 0 0 0 none 0 0) 28) = W0 := ⟨_, rfl⟩
  have hs0 : W0.heap.size = w.heap.size + 1 := by rw [← hW0]; simp
  rw [show w.alloc (.cells #[.int .i64 0, .int .i64 0, .int .i64 0, .slice none 0 0] 28) = W0 from hW0] at hbx
  rw [hW0] at hb0
  have HW0 := Lib.hid (show w.alloc (.cells #[.int .i64 0, .int .i64 0, .int .i64 0, .slice none 0 0] 28) = W0 from hW0)
  have HBX := Lib.hid hbx
  have HB0 := Lib.hid hb0
  have HS0 := Lib.hid hs0
  have HO0 : Hid (Only g w W0) := Lib.hid (Only.of_below hb0 g)
  have hltg := hx.cu.lt
  have hlth := hx.lt
  have HX0 := Lib.hid (hx.below hb0 hlth hltg)
  have HBY0 := Lib.hid (hb.below hb0 (by omega))
  have HLT := Lib.hid (show g < w.heap.size ∧ h < w.heap.size from ⟨hltg, hlth⟩)
  clear hbx hb0 hW0 hs0 hltg hlth
  have HNS0 := Lib.hid (NS.start (w := w) 4 HX0.out HO0.out HBX.out HS0.out HLT.out)
  obtain ⟨W1, hW1⟩ : ∃ W1, W0.alloc (.cells #[.int .i64 4, .int .i64 0, .int .i64 0, .slice none 0 0] 28) = W1 := ⟨_, rfl⟩
  rw [hW1] at HNS0
  have HW1 := Lib.hid hW1
  have HPK := Lib.hid (fun W q (hW : LX W h g A n c q) (ho : Only g w W) => peek_any g n c q B A zs 0 W hW.cu (HB.out.only ho hB HGW.out) hW.pl hn)
  have HNM := Lib.hid (fun W q (hW : LX W h g A n c q) (ho : Only g w W) => pnamedC h g n c q B A zs W hW (HB.out.only ho hB HGW.out) hB hn)
  obtain ⟨R, hR⟩ : ∃ R, nameF zs (zs.length + 1) p [] = R := ⟨_, rfl⟩
  rw [hR]
  have HR := Lib.hid hR
  clear hx hb hW1 hR
  go_enter Try.func47, Try.ntmps47
  go_wp2_with fail
  rw [HW0.out, HW1.out]
  go_loopg [5] (n + 1) (fun gk s5 wr => ∃ (q : Nat) (v : Value) (out : List Int), Hid (NS w wr h g A n c q 4 v out) ∧ Hid (nameF zs gk q out = R) ∧ Hid (n < gk + q) ∧ Hid (out.length ≤ 127))
  case atStart => exact ⟨p, _, [], HNS0, Lib.hid (by rw [← HL.out]; exact HR.out), Lib.hid (by omega), Lib.hid (by simp)⟩
  case round =>
    obtain ⟨q, v, out, HN, HF, HG, HOL⟩ := hrel
    have hgk : ∃ f, gk = f + 1 := ⟨gk - 1, by have := HN.out.lx.pl; have := HG.out; omega⟩
    obtain ⟨f, rfl⟩ := hgk
    have k0 := HN.out.lx.k0
    have HPK2 := Lib.hid (HPK.out wr q HN.out.lx HN.out.ol)
    rw [Int.add_zero] at HPK2
    have HRG := Lib.hid (fun W => pregC (peekZ zs (q : Int)) W)
    have HST := Lib.hid (fun hg => nm_step zs n HL.out HB.out.rng f q out R HF.out hg)
    obtain ⟨y, hy⟩ : ∃ y, peekZ zs (q : Int) = y := ⟨_, rfl⟩
    rcases hg : regB y with _ | _
    · have HE : Hid (R = (0, out, q)) := Lib.hid (by rw [← HF.out, nameF, hy, if_pos hg])
      rw [hy] at HPK2 HRG
      rw [hg] at HRG
      obtain ⟨A', c', rfl, hby, hfr⟩ := HN.out.byt
      have HBY := Lib.hid hby
      have HFR := Lib.hid hfr
      have t0 := HN.out.b1.c0
      have t1 := HN.out.b1.c1
      have t2 := HN.out.b1.c2
      have t3 := HN.out.b1.c3
      have r0 := HN.out.b0.c0
      have r1 := HN.out.b0.c1
      have r2 := HN.out.b0.c2
      have r3 := HN.out.b0.c3
      have rf := HN.out.b0.fr
      clear hy hg hby hfr HST
      go_wp2_with (first
        | (go_at_call 36; refine HPK2.out.mono ?_; (rintro e w2 ⟨rfl, q2, rfl⟩))
        | (go_at_call 22; refine (HRG.out _).mono ?_; (rintro e w3 ⟨rfl, rfl⟩)))
      have HN2 := Lib.hid (HN.out.drewN q2)
      refine bodyPost_ret (results_cell_row_tmp rfl _ _ w.heap.size 28 _ (0, 0) _ rfl HN2.out.b0.set4_ Try.underlying28 rfl (by kernel_rfl) _ rfl) rfl ?_
      have hl := HLT.out
      rw [HE.out]
      exact ⟨_, _, _, _, _, _, _, rfl, HN2.out.lx.set4_ (by omega) (by omega), HN2.out.ol.set4_ (Nat.le_refl _), fun _ => ⟨rfl, rfl, rfl, by rw [size_set4]; exact (HBY.out.drewN q2).set4_ HFR.out (by omega), fun h0 b o e => by have := HFR.out h0 b o e; omega⟩⟩
    · have HST2 := Lib.hid (HST.out (by rw [hy]; exact hg))
      rw [hy] at HPK2 HRG
      rw [hg] at HRG
      have HNM2 := Lib.hid (fun j => HNM.out (wr.drewN j) q (HN.out.lx.drewN j) (HN.out.ol.drewN j))
      have HLE := Lib.hid (nmR_le zs n q HN.out.lx.pl)
      obtain ⟨⟨x1, q1⟩, hx1⟩ : ∃ X, nmR zs n q = X := ⟨_, rfl⟩
      rw [hx1] at HNM2 HST2 HLE
      clear hy hg HST hx1
      obtain ⟨hqn, hcs⟩ := HST2.out
      rcases hcs with ⟨hx0, hR4⟩ | ⟨hx0, hx256, hqq, hq1n, hcs⟩
      · have r0 := HN.out.b0.c0
        have HX0' := Lib.hid hx0
        have HR4 := Lib.hid hR4
        dsimp only at hx0
        clear hR4 hqn HST2
        go_wp2_with (first
          | (go_at_call 36; refine HPK2.out.mono ?_; (rintro e w2 ⟨rfl, q2, rfl⟩))
          | (go_at_call 22; refine (HRG.out _).mono ?_; (rintro e w3 ⟨rfl, rfl⟩))
          | (go_at_call 61; (with_reducible refine (HNM2.out _).mono ?_); (rintro e w4 ⟨rfl, hx4, ho4⟩); have HN4 := Lib.hid ((HN.out.drewN q2).moved hx4 ho4); clear hx4 ho4; have r0 := HN4.out.b0.c0; have r1 := HN4.out.b0.c1; have r2 := HN4.out.b0.c2; have r3 := HN4.out.b0.c3; have rf := HN4.out.b0.fr))
        refine bodyPost_ret (results_cell_row_tmp rfl _ _ w.heap.size 28 _ (0, 0) _ rfl HN4.out.b0.set4_ Try.underlying28 rfl (by kernel_rfl) _ rfl) rfl ?_
        have hl := HLT.out
        rw [HR4.out]
        exact ⟨_, _, _, _, _, _, _, rfl, HN4.out.lx.set4_ (by omega) (by omega), HN4.out.ol.set4_ (Nat.le_refl _), fun h0 => absurd (show (4 : Int) = 0 from h0) (by decide)⟩
      · dsimp only at hx0 hx256 hqq hq1n hcs
        have wV : IntKind.u8.wrap x1 = x1 := IntWalk.u8_in _ (by omega)
        have nx0 : ¬ x1 ≤ 0 := by omega
        have HX1 := Lib.hid (show 0 ≤ x1 ∧ x1 < 256 from ⟨by omega, hx256⟩)
        have hQQ := Lib.hid (show q < q1 from hqq)
        have HNR := Lib.hid (fun W (hW : NS w W h g A n c q1 4 v out) => hW.room x1 HX1.out (by have := HOL.out; omega))
        obtain ⟨A', c', rfl, hby, hfr⟩ := HN.out.byt
        clear hby hfr hqn HST2 hx0 hx256 hqq hq1n
        rcases hcs with ⟨h127, hR3⟩ | ⟨h127, hF⟩
        · have HR3 := Lib.hid hR3
          have hbig : ((out.length : Int) + 1 > 127) := by omega
          have hbig2 : ((out.length + 1 : Nat) : Int) > 127 := by omega
          clear hR3 h127
          go_wp2_with (first
            | (go_at_call 36; refine HPK2.out.mono ?_; (rintro e w2 ⟨rfl, q2, rfl⟩))
            | (go_at_call 22; refine (HRG.out _).mono ?_; (rintro e w3 ⟨rfl, rfl⟩))
            | (go_at_call 61; (with_reducible refine (HNM2.out _).mono ?_); (rintro e w4 ⟨rfl, hx4, ho4⟩); have HN4 := Lib.hid ((HN.out.drewN q2).moved hx4 ho4); clear hx4 ho4; have t3 := HN4.out.b1.c3)
            | (at_builtin; obtain ⟨v6, w6, hrun, hs6, hf6, hk6, A6, c6, rfl⟩ := HNR.out w4 HN4.out; refine Lib.wpList_append_run_sl _ rfl (.tmp 19) (.tmp 22) 25 rfl _ _ rfl rfl hrun ?_; clear hrun; have HN6 := Lib.hid hs6; clear hs6; have t3 := HN6.out.b1.c3; have r0 := HN6.out.b0.c0; have r1 := HN6.out.b0.c1; have r2 := HN6.out.b0.c2; have r3 := HN6.out.b0.c3; have rf := HN6.out.b0.fr))
          refine bodyPost_ret (results_cell_row_tmp rfl _ _ w.heap.size 28 _ (0, 0) _ rfl HN6.out.b0.set4_ Try.underlying28 rfl (by kernel_rfl) _ rfl) rfl ?_
          have hl := HLT.out
          rw [HR3.out]
          exact ⟨_, _, _, _, _, _, _, rfl, HN6.out.lx.set4_ (by omega) (by omega), HN6.out.ol.set4_ (Nat.le_refl _), fun h0 => absurd (show (3 : Int) = 0 from h0) (by decide)⟩
        · have HF2 := Lib.hid hF
          have H127 := Lib.hid h127
          have hbig : ¬ ((out.length : Int) + 1 > 127) := by omega
          have hbig2 : ¬ (((out.length + 1 : Nat) : Int) > 127) := by omega
          clear hF h127
          go_wp2_with (first
            | (go_at_call 36; refine HPK2.out.mono ?_; (rintro e w2 ⟨rfl, q2, rfl⟩))
            | (go_at_call 22; refine (HRG.out _).mono ?_; (rintro e w3 ⟨rfl, rfl⟩))
            | (go_at_call 61; (with_reducible refine (HNM2.out _).mono ?_); (rintro e w4 ⟨rfl, hx4, ho4⟩); have HN4 := Lib.hid ((HN.out.drewN q2).moved hx4 ho4); clear hx4 ho4; have t3 := HN4.out.b1.c3)
            | (at_builtin; obtain ⟨v6, w6, hrun, hs6, hf6, hk6, A6, c6, rfl⟩ := HNR.out w4 HN4.out; refine Lib.wpList_append_run_sl _ rfl (.tmp 19) (.tmp 22) 25 rfl _ _ rfl rfl hrun ?_; clear hrun; have HN6 := Lib.hid hs6; clear hs6; have t3 := HN6.out.b1.c3))
          go_roundg f
          case rel => exact ⟨q1, _, _, HN6, HF2, Lib.hid (by have h1 := HG.out; have h2 := hQQ.out; omega), Lib.hid (by rw [List.length_append]; have := H127.out; simp; omega)⟩
          case measure => omega
end Go.Proofs.Ytojbhckgegoldaa
