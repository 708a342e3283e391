/- Chapter 11, the document's own lexer: what stands behind a backslash. -/
import Derived.Test.YtojbhckgegoldaaRm11
import Derived.Test.YtojbhckgegoldaaLv11
namespace Go.Proofs.Ytojbhckgegoldaa
open Go.RowKit
set_option linter.unusedVariables false
set_option maxRecDepth 100000

theorem and_255 (x : Int) (h0 : 0 ≤ x) (h1 : x < 512) : bits .and .i64 x 255 = x % 256 := by
  have h : ∀ k : Fin 512, bits .and .i64 (k.val : Int) 255 = (k.val : Int) % 256 := by decide +kernel
  have h2 := h ⟨x.toNat, by omega⟩
  have e : ((x.toNat : Nat) : Int) = x := by omega
  simpa only [e] using h2
set_option maxHeartbeats 8000000 in
theorem rescC (m n c p B : Nat) (T : TypeId) (X : List Value) (A : Option Addr) (zs : List Int) (w : World) (h : LD w m T X A n c p) (hb : Byt w B A n c zs) (hB : B ≤ m) (hn : n ≤ 1000000) (hp : p < n) :
    Calls Try.prog 68 #[.pointer (some ⟨m, 0, none⟩)] w fun e w' => e = .returned (.int .i64 (escZ zs p).1) ∧ LD w' m T X A n c (escZ zs p).2 ∧ Only m w w' := by
  have HEO := Lib.hid (reolC m n c p B T X A zs w h hb hB hn (by omega))
  have HPP := Lib.hid (fun q (hq : q ≤ n) W (hW : LD W m T X A n c q) (ho : Only m w W) => rpk0 m n c q B T X A zs w W hW ho hb hB (Nat.le_of_lt h.lt) hn (by omega))
  have HL := Lib.hid hb.len
  have HPN := Lib.hid hp
  have hbd := peekZ_bd zs hb.rng (p : Int)
  have hy0 : 0 ≤ peekZ zs (p : Int) := by
    rw [peekZ_in zs p (by rw [hb.len]; exact hp), getD_eq zs p (by rw [hb.len]; exact hp)]
    exact (hb.rng _ (List.getElem_mem _)).1
  obtain ⟨y, hy⟩ : ∃ y, peekZ zs (p : Int) = y := ⟨_, rfl⟩
  have HP0 := Lib.hid (HPP.out p (by omega))
  rw [hy] at hbd hy0 HP0
  have HY := Lib.hid hy
  have w1 : IntKind.i64.wrap ((p : Int) + 1) = (p : Int) + 1 := IntWalk.i64_in _ (by omega)
  have HQ1 : Hid ((p : Int) + 1 = ((p + 1 : Nat) : Int)) := Lib.hid (by omega)
  clear h hb hp
  unfold eolZ at HEO
  rw [hy] at HEO
  obtain rfl | rfl | ⟨a6, a7⟩ : y = 13 ∨ y = 10 ∨ (y ≠ 13 ∧ y ≠ 10) := by omega
  · have hE : escZ zs p = (-1, if peekZ zs ((p + 1 : Nat) : Int) = 10 then p + 2 else p + 1) := by simp [escZ, hy]
    rw [hE]
    rw [if_pos rfl] at HEO
    obtain ⟨qq, hqq⟩ : ∃ qq, (if peekZ zs ((p + 1 : Nat) : Int) = 10 then p + 2 else p + 1) = qq := ⟨_, rfl⟩
    rw [hqq] at HEO ⊢
    clear hE hy hqq hbd hy0
    go_enter Try.func68, Try.ntmps68
    go_wp2_with (first
      | (go_at_call 69; (with_reducible refine HEO.out.mono ?_); (rintro r wa ⟨rfl, hxa, hoa⟩); (try dsimp only); have HX := Lib.hid hxa; have HO := Lib.hid hoa; have c1 := hxa.c1; have cf := hxa.fr 1; clear hxa hoa))
    go_ret
    exact ⟨rfl, HX.out, HO.out⟩
  · have hE : escZ zs p = (-1, p + 1) := by simp [escZ, hy]
    rw [hE]
    rw [if_neg (by decide), if_pos rfl] at HEO
    obtain ⟨qq, hqq⟩ : ∃ qq, (p + 1) = qq := ⟨_, rfl⟩
    rw [hqq] at HEO ⊢
    clear hE hy hqq hbd hy0
    go_enter Try.func68, Try.ntmps68
    go_wp2_with (first
      | (go_at_call 69; (with_reducible refine HEO.out.mono ?_); (rintro r wa ⟨rfl, hxa, hoa⟩); (try dsimp only); have HX := Lib.hid hxa; have HO := Lib.hid hoa; have c1 := hxa.c1; have cf := hxa.fr 1; clear hxa hoa))
    go_ret
    exact ⟨rfl, HX.out, HO.out⟩
  · rw [if_neg a6, if_neg a7] at HEO
    by_cases ho : 48 ≤ y ∧ y ≤ 55
    · have hob : octB y = true := by unfold octB; simpa using ho
      have hE : escZ zs p = octR zs (p + 1) (y - 48) := by
        have b1 : y ≠ 110 := by omega
        have b2 : y ≠ 114 := by omega
        have b3 : y ≠ 116 := by omega
        have b4 : y ≠ 98 := by omega
        have b5 : y ≠ 102 := by omega
        simp only [escZ, hy, b1, b2, b3, b4, b5, a6, a7, if_false, hob, if_true, octR]
      rw [hE]
      obtain ⟨R, hR⟩ : ∃ R, octR zs (p + 1) (y - 48) = R := ⟨_, rfl⟩
      rw [hR]
      have HR := Lib.hid hR
      have HYY := Lib.hid ho
      obtain ⟨o1, o2⟩ := ho
      clear hE hR hy hbd hy0 a6 a7 hob
      go_enter Try.func68, Try.ntmps68
      go_wp2_with (first
        | (go_at_call 69; (with_reducible refine HEO.out.mono ?_); (rintro r wa ⟨rfl, hxa, hoa⟩); (try dsimp only); have HX := Lib.hid hxa; have HO := Lib.hid hoa; have c1 := hxa.c1; have cf := hxa.fr 1; clear hxa hoa)
        | (go_at_call 37; (with_reducible refine (HP0.out _ HX.out HO.out).mono ?_); (rintro r wa ⟨rfl, hxa, hoa⟩); (try dsimp only); have HX := Lib.hid hxa; have HO := Lib.hid hoa; have c1 := hxa.c1; have cf := hxa.fr 1; clear hxa hoa))
      clear o1 o2
      go_loopg [4, 5] 4 (fun gk s4 s5 wr => ∃ (i q : Nat) (z : Int), s5 = .int .i64 i ∧ s4 = .int .i64 z ∧ 0 ≤ z ∧ z ≤ 511 ∧ i ≤ 3 ∧ Hid (gk + i = 4) ∧ Hid (q = p + i ∧ q ≤ n) ∧ Hid (LD wr m T X A n c q) ∧ Hid (Only m w wr) ∧ Hid ((i = 0 ∧ z = 0) ∨ (i = 1 ∧ z ≤ 7 ∧ octR zs q z = R) ∨ (i = 2 ∧ z ≤ 63 ∧ (if octB (peekZ zs (q : Int)) = true then ((z * 8 + (peekZ zs (q : Int) - 48)) % 256, q + 1) else (z % 256, q)) = R) ∨ (i = 3 ∧ (z % 256, q) = R)))
      case atStart => exact ⟨0, p, 0, rfl, rfl, by omega, by omega, by omega, Lib.hid rfl, Lib.hid ⟨rfl, by have := HPN.out; omega⟩, HX, HO, Lib.hid (.inl ⟨rfl, rfl⟩)⟩
      case round =>
        obtain ⟨i, q, z, rfl, rfl, z0, z1, hi3, HG, HQ, HX, HO, HC⟩ := hrel
        have c1 := HX.out.c1
        have cf := HX.out.fr 1
        have hand := and_255 z z0 (by omega)
        by_cases hi : i = 3
        · have hR2 : Hid ((z % 256, q) = R) := Lib.hid (by
            rcases HC.out with ⟨h1, _⟩ | ⟨h1, _⟩ | ⟨h1, _⟩ | ⟨_, h2⟩
            · omega
            · omega
            · omega
            · exact h2)
          have gi : decide ((i : Int) < 3) = false := decide_eq_false (by omega)
          have gi' : decide (i < 3) = false := decide_eq_false (by omega)
          clear hi hi3
          go_wp2_with fail
          go_ret
          rw [← hR2.out]
          exact ⟨ret_int (by first | rfl | omega), HX.out, HO.out⟩
        · have gi : (i : Int) < 3 := by omega
          have HP0 := Lib.hid (HPP.out q HQ.out.2)
          obtain ⟨x, hx⟩ : ∃ x, peekZ zs (q : Int) = x := ⟨_, rfl⟩
          have HXX := Lib.hid hx
          rw [hx] at HP0
          have HI := Lib.hid (show i < 3 by omega)
          rcases hob : octB x with _ | _
          · have hR2 : Hid ((z % 256, q) = R) := Lib.hid (by
              rcases HC.out with ⟨h1, _⟩ | ⟨h1, _, h2⟩ | ⟨h1, _, h2⟩ | ⟨h1, _⟩
              · exfalso
                have h3 := HQ.out.1
                rw [h1, Nat.add_zero] at h3
                rw [h3, HY.out] at hx
                have h4 := oct_out x hob
                have h5 := HYY.out
                omega
              · rw [octR, hx, if_neg (by rw [hob]; decide)] at h2; exact h2
              · rw [hx, if_neg (by rw [hob]; decide)] at h2; exact h2
              · omega)
            have hcs := oct_out x hob
            clear hi hi3 hx hob
            rcases hcs with h1 | h1
            · have g1 : decide (x ≥ 48) = false := decide_eq_false (by omega)
              have g1' : decide (48 ≤ x) = false := decide_eq_false (by omega)
              go_wp2_with (first
                | (go_at_call 37; (with_reducible refine (HP0.out _ HX.out HO.out).mono ?_); (rintro r wa ⟨rfl, hxa, hoa⟩); (try dsimp only); have HX := Lib.hid hxa; have HO := Lib.hid hoa; have c1 := hxa.c1; have cf := hxa.fr 1; clear hxa hoa))
              go_ret
              rw [← hR2.out]
              exact ⟨ret_int (by first | rfl | omega), HX.out, HO.out⟩
            · have g1 : decide (x ≤ 55) = false := decide_eq_false (by omega)
              go_wp2_with (first
                | (go_at_call 37; (with_reducible refine (HP0.out _ HX.out HO.out).mono ?_); (rintro r wa ⟨rfl, hxa, hoa⟩); (try dsimp only); have HX := Lib.hid hxa; have HO := Lib.hid hoa; have c1 := hxa.c1; have cf := hxa.fr 1; clear hxa hoa))
              go_ret
              rw [← hR2.out]
              exact ⟨ret_int (by first | rfl | omega), HX.out, HO.out⟩
          · have hxb := oct_in x hob
            have hq := peekZ_lt zs q (by omega)
            have hqn : q < n := by have := HL.out; omega
            have HQN := Lib.hid hqn
            have hz63 : Hid (z ≤ 63) := Lib.hid (by
              rcases HC.out with ⟨h1, h2⟩ | ⟨h1, h2, _⟩ | ⟨h1, h2, _⟩ | ⟨h1, _⟩ <;> omega)
            obtain ⟨z2, hz2⟩ : ∃ z2, z * 8 + (x - 48) = z2 := ⟨_, rfl⟩
            have hz2b : 0 ≤ z2 ∧ z2 ≤ 511 := by have := hz63.out; omega
            have HZ2 := Lib.hid hz2b
            have HCC : Hid ((i + 1 = 1 ∧ z2 ≤ 7 ∧ octR zs (q + 1) z2 = R) ∨ (i + 1 = 2 ∧ z2 ≤ 63 ∧ (if octB (peekZ zs ((q + 1 : Nat) : Int)) = true then ((z2 * 8 + (peekZ zs ((q + 1 : Nat) : Int) - 48)) % 256, q + 1 + 1) else (z2 % 256, q + 1)) = R) ∨ (i + 1 = 3 ∧ (z2 % 256, q + 1) = R)) := Lib.hid (by
              rcases HC.out with ⟨h1, h2⟩ | ⟨h1, h3, h2⟩ | ⟨h1, h3, h2⟩ | ⟨h1, _⟩
              · have h3 := HQ.out.1
                rw [h1, Nat.add_zero] at h3
                have hxy : x = y := by rw [← hx, h3, HY.out]
                refine .inl ⟨by omega, by omega, ?_⟩
                rw [h3, show z2 = y - 48 by omega]
                exact HR.out
              · rw [octR, hx, if_pos hob, hz2] at h2; exact .inr (.inl ⟨by omega, by omega, h2⟩)
              · rw [hx, if_pos hob, hz2] at h2; exact .inr (.inr ⟨by omega, h2⟩)
              · omega)
            have wa1 : IntKind.i64.wrap (8 * z) = 8 * z := IntWalk.i64_in _ (by have := hz63.out; omega)
            have wa2 : IntKind.i64.wrap (8 * z + x) = 8 * z + x := IntWalk.i64_in _ (by have := hz63.out; omega)
            have wa3 : IntKind.i64.wrap (8 * z + x - 48) = z2 := by rw [show 8 * z + x - 48 = z2 by omega]; exact IntWalk.i64_in _ (by omega)
            have wq : IntKind.i64.wrap ((q : Int) + 1) = (q : Int) + 1 := IntWalk.i64_in _ (by omega)
            obtain ⟨g1, g2⟩ := hxb
            clear hi hi3 hx hob hq hqn hz2 hz2b
            go_wp2_with (first
              | (go_at_call 37; (with_reducible refine (HP0.out _ HX.out HO.out).mono ?_); (rintro r wa ⟨rfl, hxa, hoa⟩); (try dsimp only); have HX := Lib.hid hxa; have HO := Lib.hid hoa; have c1 := hxa.c1; have cf := hxa.fr 1; clear hxa hoa))
            go_roundg (gk - 1)
            case rel => exact ⟨i + 1, q + 1, z2, by go_num, rfl, HZ2.out.1, HZ2.out.2, by have := HI.out; omega, Lib.hid (by have := HG.out; have := HI.out; omega), Lib.hid ⟨by have := HQ.out.1; omega, by have := HQN.out; omega⟩, Lib.hid (HX.out.setI (q + 1) _ (by omega)), Lib.hid (HO.out.set_ 1 _), Lib.hid (.inr HCC.out)⟩
            case measure => have := HG.out; have := HI.out; omega
    · have hob : octB y = false := by unfold octB; simpa using ho
      have hgs : decide (48 ≤ y) = false ∨ (decide (48 ≤ y) = true ∧ decide (y ≤ 55) = false) := by
        by_cases h1 : 48 ≤ y
        · exact .inr ⟨decide_eq_true h1, decide_eq_false (by omega)⟩
        · exact .inl (decide_eq_false h1)
      have HHO := Lib.hid ho
      clear ho
      obtain rfl | rfl | rfl | rfl | rfl | hy1 : y = 110 ∨ y = 114 ∨ y = 116 ∨ y = 98 ∨ y = 102 ∨ (y ≠ 110 ∧ y ≠ 114 ∧ y ≠ 116 ∧ y ≠ 98 ∧ y ≠ 102) := by omega
      · have hE : escZ zs p = (10, p + 1) := by simp [escZ, hy]
        rw [hE]
        clear hE hy hgs hob hbd hy0 a6 a7
        go_enter Try.func68, Try.ntmps68
        go_wp2_with (first
          | (go_at_call 69; (with_reducible refine HEO.out.mono ?_); (rintro r wa ⟨rfl, hxa, hoa⟩); (try dsimp only); have HX := Lib.hid hxa; have HO := Lib.hid hoa; have c1 := hxa.c1; have cf := hxa.fr 1; clear hxa hoa)
          | (go_at_call 37; (with_reducible refine (HP0.out _ HX.out HO.out).mono ?_); (rintro r wa ⟨rfl, hxa, hoa⟩); (try dsimp only); have HX := Lib.hid hxa; have HO := Lib.hid hoa; have c1 := hxa.c1; have cf := hxa.fr 1; clear hxa hoa))
        go_ret
        exact ⟨rfl, HX.out.setI (p + 1) _ HQ1.out, HO.out.set_ 1 _⟩
      · have hE : escZ zs p = (13, p + 1) := by simp [escZ, hy]
        rw [hE]
        clear hE hy hgs hob hbd hy0 a6 a7
        go_enter Try.func68, Try.ntmps68
        go_wp2_with (first
          | (go_at_call 69; (with_reducible refine HEO.out.mono ?_); (rintro r wa ⟨rfl, hxa, hoa⟩); (try dsimp only); have HX := Lib.hid hxa; have HO := Lib.hid hoa; have c1 := hxa.c1; have cf := hxa.fr 1; clear hxa hoa)
          | (go_at_call 37; (with_reducible refine (HP0.out _ HX.out HO.out).mono ?_); (rintro r wa ⟨rfl, hxa, hoa⟩); (try dsimp only); have HX := Lib.hid hxa; have HO := Lib.hid hoa; have c1 := hxa.c1; have cf := hxa.fr 1; clear hxa hoa))
        go_ret
        exact ⟨rfl, HX.out.setI (p + 1) _ HQ1.out, HO.out.set_ 1 _⟩
      · have hE : escZ zs p = (9, p + 1) := by simp [escZ, hy]
        rw [hE]
        clear hE hy hgs hob hbd hy0 a6 a7
        go_enter Try.func68, Try.ntmps68
        go_wp2_with (first
          | (go_at_call 69; (with_reducible refine HEO.out.mono ?_); (rintro r wa ⟨rfl, hxa, hoa⟩); (try dsimp only); have HX := Lib.hid hxa; have HO := Lib.hid hoa; have c1 := hxa.c1; have cf := hxa.fr 1; clear hxa hoa)
          | (go_at_call 37; (with_reducible refine (HP0.out _ HX.out HO.out).mono ?_); (rintro r wa ⟨rfl, hxa, hoa⟩); (try dsimp only); have HX := Lib.hid hxa; have HO := Lib.hid hoa; have c1 := hxa.c1; have cf := hxa.fr 1; clear hxa hoa))
        go_ret
        exact ⟨rfl, HX.out.setI (p + 1) _ HQ1.out, HO.out.set_ 1 _⟩
      · have hE : escZ zs p = (8, p + 1) := by simp [escZ, hy]
        rw [hE]
        clear hE hy hgs hob hbd hy0 a6 a7
        go_enter Try.func68, Try.ntmps68
        go_wp2_with (first
          | (go_at_call 69; (with_reducible refine HEO.out.mono ?_); (rintro r wa ⟨rfl, hxa, hoa⟩); (try dsimp only); have HX := Lib.hid hxa; have HO := Lib.hid hoa; have c1 := hxa.c1; have cf := hxa.fr 1; clear hxa hoa)
          | (go_at_call 37; (with_reducible refine (HP0.out _ HX.out HO.out).mono ?_); (rintro r wa ⟨rfl, hxa, hoa⟩); (try dsimp only); have HX := Lib.hid hxa; have HO := Lib.hid hoa; have c1 := hxa.c1; have cf := hxa.fr 1; clear hxa hoa))
        go_ret
        exact ⟨rfl, HX.out.setI (p + 1) _ HQ1.out, HO.out.set_ 1 _⟩
      · have hE : escZ zs p = (12, p + 1) := by simp [escZ, hy]
        rw [hE]
        clear hE hy hgs hob hbd hy0 a6 a7
        go_enter Try.func68, Try.ntmps68
        go_wp2_with (first
          | (go_at_call 69; (with_reducible refine HEO.out.mono ?_); (rintro r wa ⟨rfl, hxa, hoa⟩); (try dsimp only); have HX := Lib.hid hxa; have HO := Lib.hid hoa; have c1 := hxa.c1; have cf := hxa.fr 1; clear hxa hoa)
          | (go_at_call 37; (with_reducible refine (HP0.out _ HX.out HO.out).mono ?_); (rintro r wa ⟨rfl, hxa, hoa⟩); (try dsimp only); have HX := Lib.hid hxa; have HO := Lib.hid hoa; have c1 := hxa.c1; have cf := hxa.fr 1; clear hxa hoa))
        go_ret
        exact ⟨rfl, HX.out.setI (p + 1) _ HQ1.out, HO.out.set_ 1 _⟩
      · obtain ⟨a1, a2, a3, a4, a5⟩ := hy1
        have hE : escZ zs p = (y, p + 1) := by simp [escZ, hy, a1, a2, a3, a4, a5, a6, a7, hob]
        rw [hE]
        have b1 : (y == 110) = false := beq_eq_false_iff_ne.2 a1
        have b2 : (y == 114) = false := beq_eq_false_iff_ne.2 a2
        have b3 : (y == 116) = false := beq_eq_false_iff_ne.2 a3
        have b4 : (y == 98) = false := beq_eq_false_iff_ne.2 a4
        have b5 : (y == 102) = false := beq_eq_false_iff_ne.2 a5
        clear hE hy a1 a2 a3 a4 a5 a6 a7 hbd hy0 hob
        rcases hgs with hg | ⟨hg, hg2⟩
        · go_enter Try.func68, Try.ntmps68
          go_wp2_with (first
            | (go_at_call 69; (with_reducible refine HEO.out.mono ?_); (rintro r wa ⟨rfl, hxa, hoa⟩); (try dsimp only); have HX := Lib.hid hxa; have HO := Lib.hid hoa; have c1 := hxa.c1; have cf := hxa.fr 1; clear hxa hoa)
            | (go_at_call 37; (with_reducible refine (HP0.out _ HX.out HO.out).mono ?_); (rintro r wa ⟨rfl, hxa, hoa⟩); (try dsimp only); have HX := Lib.hid hxa; have HO := Lib.hid hoa; have c1 := hxa.c1; have cf := hxa.fr 1; clear hxa hoa))
          go_ret
          exact ⟨rfl, HX.out.setI (p + 1) _ HQ1.out, HO.out.set_ 1 _⟩
        · go_enter Try.func68, Try.ntmps68
          go_wp2_with (first
            | (go_at_call 69; (with_reducible refine HEO.out.mono ?_); (rintro r wa ⟨rfl, hxa, hoa⟩); (try dsimp only); have HX := Lib.hid hxa; have HO := Lib.hid hoa; have c1 := hxa.c1; have cf := hxa.fr 1; clear hxa hoa)
            | (go_at_call 37; (with_reducible refine (HP0.out _ HX.out HO.out).mono ?_); (rintro r wa ⟨rfl, hxa, hoa⟩); (try dsimp only); have HX := Lib.hid hxa; have HO := Lib.hid hoa; have c1 := hxa.c1; have cf := hxa.fr 1; clear hxa hoa))
          go_ret
          exact ⟨rfl, HX.out.setI (p + 1) _ HQ1.out, HO.out.set_ 1 _⟩
end Go.Proofs.Ytojbhckgegoldaa
