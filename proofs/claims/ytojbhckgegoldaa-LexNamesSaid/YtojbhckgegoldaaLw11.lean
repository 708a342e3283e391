/- Chapter 11, the project's own: ends of lines, digits of base 8, what stands behind a backslash. -/
import Derived.Test.YtojbhckgegoldaaLc11
namespace Go.Proofs.Ytojbhckgegoldaa
open Go.RowKit
set_option linter.unusedVariables false
set_option maxRecDepth 100000

set_option maxHeartbeats 1000000 in
theorem plineC (h g n c p B : Nat) (A : Option Addr) (zs : List Int) (x : Int) (w : World) (hx : LX w h g A n c p) (hb : Byt w B A n c zs) (hn : n ≤ 1000000) :
    Calls Try.prog 63 #[.pointer (some ⟨h, 0, none⟩), .int .i64 x] w fun e w' => e = .returned (.int .i64 10) ∧ LX w' h g A n c (if x = 13 then (p + if peekZ zs (p : Int) = 10 then 1 else 0) else p) ∧ Only g w w' := by
  have HX := Lib.hid hx
  have hm := lxmatch h g n c p B A zs 10 w hx hb hn
  rw [show ((10 : UInt8).toNat : Int) = 10 from rfl] at hm
  have k0 := hx.k0
  clear hx hb
  by_cases h13 : x = 13
  · rw [if_pos h13]
    subst h13
    obtain ⟨bb, hbb⟩ : ∃ bb, decide (peekZ zs (p : Int) = 10) = bb := ⟨_, rfl⟩
    obtain ⟨qq, hqq⟩ : ∃ qq, (p + if peekZ zs (p : Int) = 10 then 1 else 0) = qq := ⟨_, rfl⟩
    rw [hbb, hqq] at hm
    rw [hqq]
    have HM := Lib.hid hm
    clear hm hbb hqq
    go_enter Try.func63, Try.ntmps63
    go_wp2_with (go_at_call 35; refine HM.out.mono ?_; (rintro e w2 ⟨rfl, hx2, ho2⟩); have HX2 := Lib.hid hx2; have HO2 := Lib.hid ho2; clear hx2 ho2)
    go_ret
    exact ⟨rfl, HX2.out, HO2.out⟩
  · rw [if_neg h13]
    clear hm
    go_enter Try.func63, Try.ntmps63
    go_wp2_with fail
    go_ret
    exact ⟨rfl, HX.out, Only.refl _ _⟩

/-- Digits of base 8 behind the first one. -/
def octR (zs : List Int) (p : Nat) (n0 : Int) : Int × Nat :=
  if octB (peekZ zs (p : Int)) = true then
    (if octB (peekZ zs ((p + 1 : Nat) : Int)) = true then ((((n0 * 8 + (peekZ zs (p : Int) - 48)) * 8 + (peekZ zs ((p + 1 : Nat) : Int) - 48)) % 256, p + 2)) else ((n0 * 8 + (peekZ zs (p : Int) - 48)) % 256, p + 1))
  else (n0 % 256, p)
theorem oct_in (x : Int) (h : octB x = true) : 48 ≤ x ∧ x ≤ 55 := by unfold octB at h; simpa using h
theorem oct_out (x : Int) (h : octB x = false) : x < 48 ∨ 55 < x := by unfold octB at h; simp at h; omega
set_option maxHeartbeats 2000000 in
theorem poctalC (h g n c p B : Nat) (A : Option Addr) (zs : List Int) (n0 : Int) (w : World) (hx : LX w h g A n c p) (hb : Byt w B A n c zs) (hB : B ≤ g) (hn : n ≤ 1000000) (h0 : 0 ≤ n0) (h7 : n0 ≤ 7) :
    Calls Try.prog 78 #[.pointer (some ⟨h, 0, none⟩), .int .i64 n0] w fun e w' => e = .returned (.int .i64 (octR zs p n0).1) ∧ LX w' h g A n c (octR zs p n0).2 ∧ Only g w w' := by
  have HX := Lib.hid hx
  have HB := Lib.hid hb
  have HGW := Lib.hid (Nat.le_of_lt hx.cu.lt)
  have HPK := Lib.hid (fun W q (hW : LX W h g A n c q) (ho : Only g w W) => peek_any g n c q B A zs 0 W hW.cu (HB.out.only ho hB HGW.out) hW.pl hn)
  have HNX := Lib.hid (fun W q (hW : LX W h g A n c q) (ho : Only g w W) => lxnext h g n c q B A zs W hW (HB.out.only ho hB HGW.out) hn)
  have HN0 := Lib.hid (show 0 ≤ n0 ∧ n0 ≤ 7 from ⟨h0, h7⟩)
  have HLN := Lib.hid hb.len
  obtain ⟨R, hR⟩ : ∃ R, octR zs p n0 = R := ⟨_, rfl⟩
  rw [hR]
  have HR := Lib.hid hR
  clear hx hb hR h0 h7
  go_enter Try.func78, Try.ntmps78
  go_wp2_with fail
  go_loopg [1, 5, 6] 3 (fun gk s1 s5 s6 wr => ∃ (i q : Nat) (m : Int), s6 = .int .i64 i ∧ s1 = .int .i64 m ∧ 0 ≤ m ∧ m ≤ 511 ∧ i ≤ 2 ∧ Hid (gk + i = 3) ∧ Hid (LX wr h g A n c q) ∧ Hid (Only g w wr) ∧ Hid ((i = 0 ∧ m ≤ 7 ∧ octR zs q m = R) ∨ (i = 1 ∧ m ≤ 63 ∧ (if octB (peekZ zs (q : Int)) = true then ((m * 8 + (peekZ zs (q : Int) - 48)) % 256, q + 1) else (m % 256, q)) = R) ∨ (i = 2 ∧ (m % 256, q) = R)))
  case atStart => exact ⟨0, p, n0, rfl, rfl, HN0.out.1, by have := HN0.out.2; omega, by omega, Lib.hid rfl, HX, Lib.hid (Only.refl _ _), Lib.hid (.inl ⟨rfl, HN0.out.2, HR.out⟩)⟩
  case round =>
    obtain ⟨i, q, m, rfl, rfl, m0, m1, hi2, HG, HXR, HOR, HC⟩ := hrel
    have k0 := HXR.out.k0
    have wm : IntKind.i64.wrap (m.tmod 256) = m % 256 := by rw [Int.tmod_eq_emod_of_nonneg m0]; exact IntWalk.i64_in _ (by omega)
    have wm2 : m.tmod 256 = m % 256 := Int.tmod_eq_emod_of_nonneg m0
    by_cases hi : i = 2
    · have hR2 : Hid ((m % 256, q) = R) := Lib.hid (by
        rcases HC.out with ⟨h1, _⟩ | ⟨h1, _⟩ | ⟨_, h2⟩
        · omega
        · omega
        · exact h2)
      have gi : ¬ ((i : Int) < 2) := by omega
      have HI := Lib.hid hi
      clear hi hi2
      go_wp2_with fail
      go_ret
      rw [← hR2.out]
      exact ⟨ret_int (by first | rfl | omega), HXR.out, HOR.out⟩
    · have gi : (i : Int) < 2 := by omega
      have HPK2 := Lib.hid (HPK.out wr q HXR.out HOR.out)
      rw [Int.add_zero] at HPK2
      have HNX2 := Lib.hid (fun j => HNX.out (wr.drewN j) q (HXR.out.drewN j) (HOR.out.drewN j))
      obtain ⟨y, hy⟩ : ∃ y, peekZ zs (q : Int) = y := ⟨_, rfl⟩
      have HY := Lib.hid hy
      rw [hy] at HPK2
      have HI := Lib.hid (show i < 2 by omega)
      rcases ho : octB y with _ | _
      · have hR2 : Hid ((m % 256, q) = R) := Lib.hid (by
          rcases HC.out with ⟨h1, _, h2⟩ | ⟨h1, _, h2⟩ | ⟨h1, _⟩
          · rw [octR, hy, if_neg (by rw [ho]; decide)] at h2; exact h2
          · rw [hy, if_neg (by rw [ho]; decide)] at h2; exact h2
          · omega)
        have hcs := oct_out y ho
        clear hi hi2 hy ho
        rcases hcs with h1 | h1
        · go_wp2_with (first
            | (go_at_call 36; refine HPK2.out.mono ?_; (rintro e w2 ⟨rfl, q2, rfl⟩)))
          go_ret
          rw [← hR2.out]
          exact ⟨ret_int (by first | rfl | omega), HXR.out.drewN q2, HOR.out.drewN q2⟩
        · have h2 : decide (y < 48) = false := decide_eq_false (by omega)
          go_wp2_with (first
            | (go_at_call 36; refine HPK2.out.mono ?_; (rintro e w2 ⟨rfl, q2, rfl⟩)))
          go_ret
          rw [← hR2.out]
          exact ⟨ret_int (by first | rfl | omega), HXR.out.drewN q2, HOR.out.drewN q2⟩
      · have hyb := oct_in y ho
        have hq := peekZ_lt zs q (by omega)
        have hqn : q < n := by have := HLN.out; omega
        rw [nxP_in hqn] at HNX2
        have hm63 : Hid (m ≤ 63) := Lib.hid (by
          rcases HC.out with ⟨h1, h2, _⟩ | ⟨h1, h2, _⟩ | ⟨h1, _⟩ <;> omega)
        obtain ⟨m2, hm2⟩ : ∃ m2, m * 8 + (y - 48) = m2 := ⟨_, rfl⟩
        have hm2b : 0 ≤ m2 ∧ m2 ≤ 511 := by have := hm63.out; omega
        have HM2B := Lib.hid hm2b
        have HCC : Hid ((i + 1 = 1 ∧ m2 ≤ 63 ∧ (if octB (peekZ zs ((q + 1 : Nat) : Int)) = true then ((m2 * 8 + (peekZ zs ((q + 1 : Nat) : Int) - 48)) % 256, q + 1 + 1) else (m2 % 256, q + 1)) = R) ∨ (i + 1 = 2 ∧ (m2 % 256, q + 1) = R)) := Lib.hid (by
          rcases HC.out with ⟨h1, h3, h2⟩ | ⟨h1, h3, h2⟩ | ⟨h1, _⟩
          · rw [octR, hy, if_pos ho, hm2] at h2; exact .inl ⟨by omega, by omega, h2⟩
          · rw [hy, if_pos ho, hm2] at h2; exact .inr ⟨by omega, h2⟩
          · omega)
        have w1 : IntKind.i64.wrap (m * 8) = m * 8 := IntWalk.i64_in _ (by have := hm63.out; omega)
        have w2' : IntKind.i64.wrap (m * 8 + y) = m * 8 + y := IntWalk.i64_in _ (by have := hm63.out; omega)
        have w3' : IntKind.i64.wrap (m * 8 + y - 48) = m2 := by rw [show m * 8 + y - 48 = m2 by omega]; exact IntWalk.i64_in _ (by omega)
        have g1 : ¬ y < 48 := by omega
        have g1' : decide (y < 48) = false := decide_eq_false g1
        have g2 : ¬ y > 55 := by omega
        have g2' : decide (y > 55) = false := decide_eq_false g2
        have g3' : decide (55 < y) = false := decide_eq_false (by omega)
        clear hi hi2 hy ho hyb hq hqn hm2 hm2b
        go_wp2_with (first
          | (go_at_call 36; refine HPK2.out.mono ?_; (rintro e w2 ⟨rfl, q2, rfl⟩))
          | (go_at_call 62; refine (HNX2.out _).mono ?_; (rintro e w3 ⟨rfl, hx3, ho3⟩); have HX3 := Lib.hid hx3; have HO3 := Lib.hid ((HOR.out.drewN q2).trans ho3); clear hx3 ho3))
        go_roundg (gk - 1)
        case rel => exact ⟨i + 1, q + 1, m2, by go_num, rfl, HM2B.out.1, HM2B.out.2, by have := HI.out; omega, Lib.hid (by have := HG.out; have := HI.out; omega), HX3, HO3, Lib.hid (.inr HCC.out)⟩
        case measure => have := HG.out; have := HI.out; omega
end Go.Proofs.Ytojbhckgegoldaa
