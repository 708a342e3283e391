/- The document's own Blocks (chapter 4): its contract. -/
import Derived.Test.YtginbilakdenmaaRef4Blk
import Derived.Test.YtginbilakdenmaaRef4DynC
namespace Go.Proofs.Ytginbilakdenmaa
open Go.RowKit
set_option linter.unusedVariables false
set_option maxRecDepth 100000

/-- Bytes, how many of b they are of, an error: the bytes lie somewhere; nothing that was there has changed. -/
def FlowPost (w : World) (x : List Int × Nat × Int) (r : Ending) (w' : World) : Prop :=
  ∃ (A' : Option Addr) (c' : Nat), r = .returned (.tuple #[.slice A' x.1.length c', .int .i64 x.2.1, .int .i64 x.2.2]) ∧ Byt w' w'.heap.size A' x.1.length c' x.1 ∧ x.1.length ≤ 9223372036854775807 ∧ Below w.heap.size w w'
theorem keeps_below {w w' : World} {B : Nat} {ts : Nat → Prop} (h : Keeps ts w w') (hB : ∀ i, i < B → ts i) : Below B w w' := ⟨h.os, h.tape, h.output, h.size, fun i hi => h.block i (hB i hi)⟩

set_option maxRecDepth 100000 in
set_option maxHeartbeats 2000000 in
theorem refBlocks (A : Option Addr) (n c M : Nat) (m : Int) (zs : List Int) (w : World) (hb : Byt w w.heap.size A n c zs) (hn : n ≤ 100000000) (hM : M ≤ 100000000) (hm : max m 0 = M) (m0 : -9223372036854775808 ≤ m) :
    Calls Try.prog 24 #[.slice A n c, .int .i64 m] w (FlowPost w (blocksS zs M)) := by
  obtain ⟨ts, hts⟩ : ∃ ts : Nat → Prop, ts = fun i => i < w.heap.size := ⟨_, rfl⟩
  have HTS : Hid (∀ i, ts i ↔ i < w.heap.size) := Lib.hid (by rw [hts]; exact fun i => Iff.rfl)
  clear hts
  obtain ⟨g, hg⟩ : ∃ g, w.heap.size = g := ⟨_, rfl⟩
  obtain ⟨res, hres⟩ : ∃ x, blocksS zs M = x := ⟨_, rfl⟩
  have HLEN := Lib.hid hb.len
  have HB := Lib.hid hb
  have HG := Lib.hid hg
  have HRES := Lib.hid hres
  rw [hres]
  clear hb hg hres
  go_enter Try.func24, Try.ntmps24
  go_wp2
  have HF0 : Hid (FS ((w.alloc (.cells #[.slice A n c, .int .i64 0, .int .i64 0] 75)).alloc (.cells #[.pointer (some ⟨w.heap.size, 0, none⟩), .slice none 0 0, .int .i64 M] 77)) (w.heap.size + 1) w.heap.size ts A n c 0 0 (.slice none 0 0) [] M) := Lib.hid (by
    refine ⟨?_, ?_, by omega, Mine.nil _ 0, (fun b hb => by cases hb), (fun h => by have := (HTS.out _).1 h; omega), (fun h => by have := (HTS.out _).1 h; omega), (fun i hi => by have := (HTS.out _).1 hi; simp; omega)⟩
    · exact (((Below.refl (w.heap.size + 1) (w.alloc (.cells #[.slice A n c, .int .i64 0, .int .i64 0] 75))).alloc (by simp) _).block w.heap.size (by omega)).trans (heap_alloc_new w _)
    · have h := heap_alloc_new (w.alloc (.cells #[.slice A n c, .int .i64 0, .int .i64 0] 75)) (.cells #[.pointer (some ⟨w.heap.size, 0, none⟩), .slice none 0 0, .int .i64 M] 77)
      rw [World.size_alloc] at h
      exact h)
  have HK0 : Hid (Keeps ts w ((w.alloc (.cells #[.slice A n c, .int .i64 0, .int .i64 0] 75)).alloc (.cells #[.pointer (some ⟨w.heap.size, 0, none⟩), .slice none 0 0, .int .i64 M] 77))) := Lib.hid (below_keeps (B := w.heap.size) (((Below.refl _ _).alloc (Nat.le_refl _) _).alloc (by simp) _) (fun i hi => (HTS.out i).1 hi))
  have HYB : Hid (∀ W, Keeps ts w W → Byt W w.heap.size A n c zs) := Lib.hid (fun W hW => HB.out.keeps hW (fun i hi => (HTS.out i).2 hi))
  have HBT : Hid (∀ i, i < w.heap.size → ts i) := Lib.hid (fun i hi => (HTS.out i).2 hi)
  obtain ⟨W0, hW0⟩ : ∃ W0, (w.alloc (.cells #[.slice A n c, .int .i64 0, .int .i64 0] 75)).alloc (.cells #[.pointer (some ⟨w.heap.size, 0, none⟩), .slice none 0 0, .int .i64 M] 77) = W0 := ⟨_, rfl⟩
  rw [hW0] at HF0 HK0 ⊢
  rw [HG.out] at HF0 HYB HBT ⊢
  have HT := Lib.hid (fun W v out p e m y q d (hW : Keeps ts w W) (h : FS W (g + 1) g ts A n c p e v out M) (hp : p ≤ 8 * n) (hm : m ≤ 16) hs => takeC g n c p g m e A zs W h.bs (HYB.out W hW) (Nat.le_refl _) hn hm hp y q d hs)
  have HR0 : Hid (blocksR zs M (8 * n + 1) 0 [] = res) := Lib.hid (by have := HRES.out; unfold blocksS at this; rw [HLEN.out] at this; exact this)
  clear hW0
  go_loopw [8] (fun s wr => ∃ (F q : Nat) (e : Int) (v : Value) (out : List Int), Hid (q ≤ 8 * n) ∧ Hid ((e = 0 ∧ 8 * n - q < F ∧ blocksR zs M F q out = res) ∨ (¬ e = 0 ∧ ([], 0, e) = res)) ∧ Hid (FS wr (g + 1) g ts A n c q e v out M) ∧ Hid (Keeps ts w wr)) (fun _ wr => 2 * (8 * n - pOf g wr) + eOf g wr)
  case atStart => exact ⟨8 * n + 1, 0, 0, _, [], Lib.hid (by omega), Lib.hid (.inl ⟨rfl, by omega, HR0.out⟩), HF0, HK0⟩
  case round =>
    obtain ⟨F, q, e, v, out, HQ, HR, HF, HK⟩ := hrel
    have k0 := HF.out.c0
    have k2 := HF.out.bs.c2
    by_cases he : e = 0
    · subst he
      obtain ⟨hF, hR⟩ : 8 * n - q < F ∧ blocksR zs M F q out = res := by
        rcases HR.out with h | h
        · exact h.2
        · exact absurd rfl h.1
      obtain ⟨J, hJ⟩ : ∃ J, F = J + 1 := ⟨F - 1, by omega⟩
      subst hJ
      rw [blocksR] at hR
      have hbp := blockS_p zs M q out (by rw [HLEN.out]; exact HQ.out)
      rw [HLEN.out] at hbp
      obtain ⟨⟨rp, re, rout⟩, hbs⟩ : ∃ r, blockS zs M q out = r := ⟨_, rfl⟩
      rw [hbs] at hR hbp
      dsimp only at hR hbp
      unfold blockS at hbs
      obtain ⟨y1, q1, d1, t1⟩ : ∃ y qx dx, takeS zs q 0 1 = (y, qx, dx) := ⟨_, _, _, rfl⟩
      have hv1 := takeS_v zs q 0 1
      have hq1 := (takeS_p zs q 0 1 (by rw [HLEN.out]; exact HQ.out)).1
      rw [t1] at hbs hR hv1 hq1
      rw [HLEN.out] at hq1
      dsimp only at hbs hR hv1 hq1
      obtain ⟨y2, q2, d2, t2⟩ : ∃ y qx dx, takeS zs q1 d1 2 = (y, qx, dx) := ⟨_, _, _, rfl⟩
      have hv2 := takeS_v zs q1 d1 2
      have hq2 := (takeS_p zs q1 d1 2 (by rw [HLEN.out]; exact hq1)).1
      rw [t2] at hbs hv2 hq2
      rw [HLEN.out] at hq2
      dsimp only at hbs hv2 hq2
      obtain ⟨Y1, rfl⟩ : ∃ Y1 : Nat, y1 = Y1 := ⟨y1.toNat, by omega⟩
      have T2 := Lib.hid t2
      have HQ1 := Lib.hid hq1
      have HQ2 := Lib.hid hq2
      have HBS := Lib.hid hbs
      have HRR := Lib.hid hR
      have HBP := Lib.hid hbp
      have HFF := Lib.hid hF
      have HTA := Lib.hid (show Calls Try.prog 44 #[.pointer (some ⟨g, 0, none⟩), .int .i64 1] wr _ from HT.out _ v out q 0 1 Y1 q1 d1 HK.out HF.out HQ.out (by omega) t1)
      have hY1 : Y1 < 2 := by have := hv1.2; omega
      have hy2 : 0 ≤ y2 ∧ y2 < 4 := hv2
      clear t1 t2 hq1 hq2 hbs hR hbp hF hv1 hv2
      go_upto_block 2 with (first
        | (go_at_call 44; (with_reducible refine HTA.out.mono ?_); rintro r w1 ⟨rfl, hb1, ho1⟩; have HF1 := Lib.hid (HF.out.read ho1 hb1); have HK1 := Lib.hid (HK.out.trans (ho1.keeps HF.out.tg HF.out.tb)); have k01 := HF1.out.c0; clear hb1 ho1)
        | (go_at_call 44; refine (HT.out _ v out q1 d1 2 y2 q2 d2 HK1.out HF1.out HQ1.out (by omega) T2.out).mono ?_; rintro r w2 ⟨rfl, hb2, ho2⟩; have HF2 := Lib.hid (HF1.out.read ho2 hb2); have HK2 := Lib.hid (HK1.out.trans (ho2.keeps HF1.out.tg HF1.out.tb)); have k02 := HF2.out.c0; have k22 := HF2.out.bs.c2; clear hb2 ho2))
      clear k0 k2 k01
      rename_i KS hKS
      suffices hsw : ∀ (x10 x11 x12 x13 x21 x22 x23 x24 x25 x26 x27 x28 x29 x30 x31 x32 x33 x34 x35 x36 x37 x38 x39 x40 x41 x42 x43 x44 x45 x46 x47 x48 x49 x50 x51 x52 x53 x54 x55 x56 x57 x58 x59 x60 x61 x62 x63 x64 x65 x66 x67 x68 x69 x70 x71 x72 x73 x74 x75 x76 x77 x78 x79 x80 x81 x82 x83 x84 x85 x86 x87 x88 x89 x90 x91 x92 x93 x94 x95 x96 x97 x98 x99 x100 x101 x102 x103 x104 x105 x106 x107 x108 x109 x110 x111 x112 x113 : Value) (wx : World) (vx : Value), Hid (FS wx (g + 1) g ts A n c rp re vx rout M) → Hid (Keeps ts w wx) → KS { tmps := #[.slice A n c, .int .i64 m, undef, undef, u4, u5, u6, .pointer (some ⟨g + 1, 0, none⟩), .int .i64 Y1, .int .i64 y2, x10, x11, x12, x13, .slice A n c, .agg #[.slice A n c, .int .i64 0, .int .i64 0], .pointer (some ⟨g, 0, none⟩), .int .i64 m, .int .i64 M, .agg #[.pointer (some ⟨g, 0, none⟩), .slice none 0 0, .int .i64 M], .pointer (some ⟨g + 1, 0, none⟩), x21, x22, x23, x24, x25, x26, x27, x28, x29, x30, x31, x32, x33, x34, x35, x36, x37, x38, x39, x40, x41, x42, x43, x44, x45, x46, x47, x48, x49, x50, x51, x52, x53, x54, x55, x56, x57, x58, x59, x60, x61, x62, x63, x64, x65, x66, x67, x68, x69, x70, x71, x72, x73, x74, x75, x76, x77, x78, x79, x80, x81, x82, x83, x84, x85, x86, x87, x88, x89, x90, x91, x92, x93, x94, x95, x96, x97, x98, x99, x100, x101, x102, x103, x104, x105, x106, x107, x108, x109, x110, x111, x112, x113, undef, undef, undef, undef, undef, undef, undef], defers := [] } wx by
        clear hKS
        have hbs := HBS.out
        by_cases hd2 : d2 = 0
        · subst hd2
          rw [if_pos rfl] at hbs
          unfold kindS at hbs
          by_cases h0 : y2 = 0
          · subst h0
            rw [if_pos rfl] at hbs
            have HBS2 := Lib.hid hbs
            clear hbs
            go_wp2_with (go_at_call 45; refine (storedC (g + 1) g n c q2 g M A v out zs ts _ HF2.out (HYB.out _ HK2.out) HBT.out hn hM HQ2.out rp re rout HBS2.out).mono ?_; rintro r w3 ⟨rfl, v3, hf3, hk3⟩; have HF3 := Lib.hid hf3; have HK3 := Lib.hid (HK2.out.trans hk3); clear hf3 hk3)
            exact hsw _ _ _ _ _ _ _ _ _ _ _ _ _ _ _ _ _ _ _ _ _ _ _ _ _ _ _ _ _ _ _ _ _ _ _ _ _ _ _ _ _ _ _ _ _ _ _ _ _ _ _ _ _ _ _ _ _ _ _ _ _ _ _ _ _ _ _ _ _ _ _ _ _ _ _ _ _ _ _ _ _ _ _ _ _ _ _ _ _ _ _ _ _ _ _ _ _ _ _ HF3 HK3
          · rw [if_neg h0] at hbs
            have hb0 : (y2 == 0) = false := beq_eq_false_iff_ne.2 h0
            by_cases h1 : y2 = 1
            · subst h1
              rw [if_pos rfl, HLEN.out] at hbs
              have HBS2 := Lib.hid hbs
              have HFX := Lib.hid (fixedC w2)
              clear hbs h0
              go_wp2_with (first
                | (go_at_call 35; refine HFX.out.mono ?_; rintro r w3 ⟨b1, b2, rfl, hi1, hi2, hne, hs1, hs2, hb3⟩; have HI1 := Lib.hid hi1; have HI2 := Lib.hid hi2; have HS1 := Lib.hid hs1; have HS2 := Lib.hid hs2; have HB3 := Lib.hid hb3; have HF3 : Hid (FS w3 (g + 1) g (fun i => ts i ∨ i = b1 ∨ i = b2) A n c q2 0 v out M) := Lib.hid (HF2.out.and hb3 _ (fun i hi => by
                    rcases hi with hi | rfl | rfl
                    · exact .inl hi
                    · exact .inr ⟨hs1, hi1.lt⟩
                    · exact .inr ⟨hs2, hi2.lt⟩)); have HK3 := Lib.hid (HK2.out.trans (below_keeps hb3 HF2.out.tb)); clear hi1 hi2 hne hs1 hs2 hb3)
                | (go_at_call 46; refine (codedC (g + 1) g n c q2 g 288 288 32 32 M A _ _ v out zs fixLs fixDs _ _ HF3.out (HYB.out _ HK3.out) (fun i hi => .inl (HBT.out i hi)) hn hM HQ2.out (fun W hW => IRow.nums ((hW.block b1 (.inr (.inl rfl))).trans HI1.out) (by simp [fixLs, fixLN_len])) (fun W hW => IRow.nums ((hW.block b2 (.inr (.inr rfl))).trans HI2.out) (by simp [fixDs, fixDN_len])) (by omega) (by omega) rp re rout HBS2.out).mono ?_; rintro r w4 ⟨rfl, v4, hf4, hk4⟩; have HF4 := Lib.hid (hf4.sub (ts := ts) (fun i hi => .inl hi)); have HK4 := Lib.hid (HK3.out.trans (hk4.sub (us := ts) (fun i hi => .inl hi))); clear hf4 hk4))
              exact hsw _ _ _ _ _ _ _ _ _ _ _ _ _ _ _ _ _ _ _ _ _ _ _ _ _ _ _ _ _ _ _ _ _ _ _ _ _ _ _ _ _ _ _ _ _ _ _ _ _ _ _ _ _ _ _ _ _ _ _ _ _ _ _ _ _ _ _ _ _ _ _ _ _ _ _ _ _ _ _ _ _ _ _ _ _ _ _ _ _ _ _ _ _ _ _ _ _ _ _ HF4 HK4
            · rw [if_neg h1] at hbs
              have hb1' : (y2 == 1) = false := beq_eq_false_iff_ne.2 h1
              by_cases h2 : y2 = 2
              · subst h2
                rw [if_pos rfl] at hbs
                obtain ⟨⟨p5, e5, l1, l2⟩, hdy⟩ : ∃ x, dynS zs q2 = x := ⟨_, rfl⟩
                have hp5 := (dynS_p zs q2 (by rw [HLEN.out]; exact HQ2.out)).1
                rw [hdy] at hbs hp5
                rw [HLEN.out] at hbs hp5
                dsimp only at hbs hp5
                have HD := Lib.hid (dynC (g + 1) g n c q2 g M A v out zs ts w2 HF2.out (HYB.out _ HK2.out) HBT.out hn hM HQ2.out p5 e5 l1 l2 hdy)
                have HP5 := Lib.hid hp5
                clear hdy hp5 h0 h1
                by_cases he5 : e5 = 0
                · subst he5
                  rw [if_pos rfl] at hbs
                  have HBS2 := Lib.hid hbs
                  clear hbs
                  go_wp2_with (first
                    | (go_at_call 47; refine HD.out.mono ?_; rintro r w3 ⟨A1, n1, c1, A2, n2, c2, us, rfl, hus, hf3, hk3, hnm⟩; have HF3 := Lib.hid hf3; have HK3 := Lib.hid (HK2.out.trans hk3); have HUS := Lib.hid hus; have HNM := Lib.hid (hnm rfl); have k03 := hf3.c0; have k23 := hf3.bs.c2; clear hf3 hk3 hus hnm)
                    | (go_at_call 46; refine (codedC (g + 1) g n c p5 g n1 c1 n2 c2 M A A1 A2 v out zs l1 l2 us _ HF3.out (HYB.out _ HK3.out) (fun i hi => HUS.out i (HBT.out i hi)) hn hM HP5.out (fun W hW => (HNM.out.2.2 W hW).1) (fun W hW => (HNM.out.2.2 W hW).2) HNM.out.1 HNM.out.2.1 rp re rout HBS2.out).mono ?_; rintro r w4 ⟨rfl, v4, hf4, hk4⟩; have HF4 := Lib.hid (hf4.sub (ts := ts) HUS.out); have HK4 := Lib.hid (HK3.out.trans (hk4.sub (us := ts) HUS.out)); clear hf4 hk4))
                  exact hsw _ _ _ _ _ _ _ _ _ _ _ _ _ _ _ _ _ _ _ _ _ _ _ _ _ _ _ _ _ _ _ _ _ _ _ _ _ _ _ _ _ _ _ _ _ _ _ _ _ _ _ _ _ _ _ _ _ _ _ _ _ _ _ _ _ _ _ _ _ _ _ _ _ _ _ _ _ _ _ _ _ _ _ _ _ _ _ _ _ _ _ _ _ _ _ _ _ _ _ HF4 HK4
                · rw [if_neg he5] at hbs
                  obtain ⟨hr1, hr2⟩ := Prod.mk.inj hbs
                  obtain ⟨hr3, hr4⟩ := Prod.mk.inj hr2
                  subst hr1 hr3 hr4
                  have hz5 : (e5 == 0) = false := beq_eq_false_iff_ne.2 he5
                  clear hbs hr2 he5
                  go_wp2_with (go_at_call 47; refine HD.out.mono ?_; rintro r w3 ⟨A1, n1, c1, A2, n2, c2, us, rfl, hus, hf3, hk3, hnm⟩; have HF3 := Lib.hid (hf3.sub (ts := ts) hus); have HK3 := Lib.hid (HK2.out.trans hk3); have k03 := hf3.c0; have k23 := hf3.bs.c2; clear hf3 hk3 hus hnm)
                  exact hsw _ _ _ _ _ _ _ _ _ _ _ _ _ _ _ _ _ _ _ _ _ _ _ _ _ _ _ _ _ _ _ _ _ _ _ _ _ _ _ _ _ _ _ _ _ _ _ _ _ _ _ _ _ _ _ _ _ _ _ _ _ _ _ _ _ _ _ _ _ _ _ _ _ _ _ _ _ _ _ _ _ _ _ _ _ _ _ _ _ _ _ _ _ _ _ _ _ _ _ HF3 HK3
              · rw [if_neg h2] at hbs
                have hb2' : (y2 == 2) = false := beq_eq_false_iff_ne.2 h2
                obtain ⟨hr1, hr2⟩ := Prod.mk.inj hbs
                obtain ⟨hr3, hr4⟩ := Prod.mk.inj hr2
                subst hr1 hr3 hr4
                clear hbs hr2 h0 h1 h2
                go_wp2_with (go_at_call 48; refine (fail_first g n c q2 4 A _ HF2.out.bs).mono ?_; rintro r w3 ⟨rfl, hb3, ho3⟩; have HF3 := Lib.hid (HF2.out.read ho3 hb3); have HK3 := Lib.hid (HK2.out.trans (ho3.keeps HF2.out.tg HF2.out.tb)); clear hb3 ho3)
                exact hsw _ _ _ _ _ _ _ _ _ _ _ _ _ _ _ _ _ _ _ _ _ _ _ _ _ _ _ _ _ _ _ _ _ _ _ _ _ _ _ _ _ _ _ _ _ _ _ _ _ _ _ _ _ _ _ _ _ _ _ _ _ _ _ _ _ _ _ _ _ _ _ _ _ _ _ _ _ _ _ _ _ _ _ _ _ _ _ _ _ _ _ _ _ _ _ _ _ _ _ HF3 HK3
        · rw [if_neg hd2] at hbs
          obtain ⟨hr1, hr2⟩ := Prod.mk.inj hbs
          obtain ⟨hr3, hr4⟩ := Prod.mk.inj hr2
          subst hr1 hr3 hr4
          have hz4 : (d2 == 0) = false := beq_eq_false_iff_ne.2 hd2
          have hz5 : (d2 != 0) = true := by simpa using hd2
          clear hbs hr2 hd2
          go_wp2
          exact hsw _ _ _ _ _ _ _ _ _ _ _ _ _ _ _ _ _ _ _ _ _ _ _ _ _ _ _ _ _ _ _ _ _ _ _ _ _ _ _ _ _ _ _ _ _ _ _ _ _ _ _ _ _ _ _ _ _ _ _ _ _ _ _ _ _ _ _ _ _ _ _ _ _ _ _ _ _ _ _ _ _ _ _ _ _ _ _ _ _ _ _ _ _ _ _ _ _ _ _ HF2 HK2
      intro x10 x11 x12 x13 x21 x22 x23 x24 x25 x26 x27 x28 x29 x30 x31 x32 x33 x34 x35 x36 x37 x38 x39 x40 x41 x42 x43 x44 x45 x46 x47 x48 x49 x50 x51 x52 x53 x54 x55 x56 x57 x58 x59 x60 x61 x62 x63 x64 x65 x66 x67 x68 x69 x70 x71 x72 x73 x74 x75 x76 x77 x78 x79 x80 x81 x82 x83 x84 x85 x86 x87 x88 x89 x90 x91 x92 x93 x94 x95 x96 x97 x98 x99 x100 x101 x102 x103 x104 x105 x106 x107 x108 x109 x110 x111 x112 x113 wx vx HFX HKX
      refine hKS _ _ ?_
      clear hKS KS k02 k22
      have k0 := HFX.out.c0
      have k2 := HFX.out.bs.c2
      by_cases hre : re = 0
      · subst hre
        by_cases hl : Y1 = 1
        · subst hl
          have hres : (rout, (rp + 7) / 8, 0) = res := by have := HRR.out; rw [if_neg (fun h => h rfl), if_pos (show ((1 : Nat) : Int) = 1 from rfl)] at this; exact this
          subst hres
          have k1 := HFX.out.c1
          have kp := HFX.out.bs.c1
          obtain ⟨A2, c2, rfl, hby⟩ := HFX.out.row.byt
          have HBY := Lib.hid hby
          have hrp : (rp : Int) ≤ 800000000 := by have := HBP.out.1; omega
          obtain ⟨N8, hN8⟩ : ∃ N8, (rp + 7) / 8 = N8 := ⟨_, rfl⟩
          have e8 : ((rp : Int) + 7) / 8 = N8 := by omega
          have HN8 := Lib.hid hN8
          clear hby hN8
          go_upto_region 17 with fail
          go_quiet (fail)
          go_wp2
          go_ret3
          refine ⟨A2, c2, ?_, HBY.out.drewN nq, HFX.out.row.le, keeps_below (HKX.out.drewN nq) (fun i hi => (HTS.out i).2 hi)⟩
          show Ending.returned (.tuple #[.slice A2 rout.length c2, .int .i64 (N8 : Int), .int .i64 0]) = .returned (.tuple #[.slice A2 rout.length c2, .int .i64 (((rp + 7) / 8 : Nat) : Int), .int .i64 0])
          rw [HN8.out]
        · have hl0 : Y1 = 0 := by omega
          subst hl0
          have hR := HRR.out
          rw [if_neg (fun h => h rfl), if_neg (by decide)] at hR
          have HRJ := Lib.hid hR
          clear hR hl
          go_wp2
          go_roundw
          case rel => exact ⟨J, rp, 0, vx, rout, Lib.hid HBP.out.1, Lib.hid (.inl ⟨rfl, by have := HBP.out.2.2 rfl; have := HFF.out; have := HBP.out.1; omega, HRJ.out⟩), HFX, HKX⟩
          case measure => rw [HF.out.pOf, HFX.out.pOf, HF.out.eOf, HFX.out.eOf]; have := HBP.out.2.2 rfl; have := HBP.out.1; omega
      · have hres : ([], 0, re) = res := by have := HRR.out; rw [if_pos hre] at this; exact this
        have hz4 : (re == 0) = false := beq_eq_false_iff_ne.2 hre
        have HNE := Lib.hid hre
        have HRS := Lib.hid hres
        clear hre hres
        go_wp2
        go_roundw
        case rel => exact ⟨0, rp, re, vx, rout, Lib.hid HBP.out.1, Lib.hid (.inr ⟨HNE.out, HRS.out⟩), HFX, HKX⟩
        case measure => rw [HF.out.pOf, HFX.out.pOf, HF.out.eOf, HFX.out.eOf, if_neg HNE.out, if_pos rfl]; have := HBP.out.2.1; omega
    · have hres : ([], 0, e) = res := by
        rcases HR.out with h | h
        · exact absurd h.1 he
        · exact h.2
      subst hres
      have hz4 : (e == 0) = false := beq_eq_false_iff_ne.2 he
      clear he
      go_upto_region 18 with fail
      go_quiet (fail)
      go_wp2
      go_ret3
      exact ⟨none, 0, rfl, Byt.none_ _ _, Nat.zero_le _, keeps_below (HK.out.drewN nq) (fun i hi => (HTS.out i).2 hi)⟩
end Go.Proofs.Ytginbilakdenmaa
