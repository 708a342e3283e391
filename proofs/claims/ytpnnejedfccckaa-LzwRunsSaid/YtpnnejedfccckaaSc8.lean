/- Chapter 8, the project's own reader: read, Decode. -/
import Derived.Test.YtpnnejedfccckaaSb8
namespace Go.Proofs.Ytpnnejedfccckaa
open Go.RowKit
set_option linter.unusedVariables false
set_option maxRecDepth 100000

theorem run_cutP {P : Program} (W : World) (t e : TypeId) (ht : P.underlying t = some (.slice e)) (hz : ∀ w, (Go.sizeOf e).run P w = .ok 2 w) (A : Option Addr) (len cap : Nat) :
    (Instr.slice t (.slice A len cap) none (some (.int .i64 0)) none).run P W = .ok (.slice A 0 cap) W := by
  have ht' : P.underlying t = some (.slice (P.elem t)) := by simp [Program.elem, ht]
  have he : P.elem t = e := by simp [Program.elem, ht]
  rw [run_slice_h W t A len cap ht' .i64 0 (by omega) (by omega), he, hz]
  cases A <;> simp [Result.andThen, sliced, Addr.add]
/-- What is not read yet, by the reader's own cells. -/
def lfOf (kp : Nat) (w : World) : Nat := match w.cell? ⟨kp, 0, none⟩, w.cell? ⟨kp, 2, none⟩ with
  | some (.slice _ n _), some (.int _ z) => 8 * n + z.toNat
  | _, _ => 0
section
variable {w0 w w' : World} {kp p q n c la ln M : Nat} {zs : List Int} {A : Option Addr} {tv v : Value} {ps : List (Nat × Nat)} {out : List Int}
theorem LQ.lf (h : LQ w0 w kp zs p q A n c tv ps la ln v out M) : lfOf kp w = 8 * zs.length - p := by
  have c0 : w.cell? ⟨kp, 0, none⟩ = some (.slice A n c) := h.lr.at_ 0
  have c2 : w.cell? ⟨kp, 2, none⟩ = some (.int .i64 ((8 * q - p : Nat) : Int)) := h.lr.at_ 2
  have := h.nn
  have := h.qn
  have := h.pq
  simp only [lfOf, c0, c2]
  omega
/-- The rows forgotten. -/
theorem LQ.reset {AT : Option Addr} {nT cT : Nat} (h : LQ w0 w kp zs p q A n c (.slice AT nT cT) ps la ln v out M) : LQ w0 (((w.setCell ⟨kp, 3, none⟩ (.slice AT 0 cT)).setCell ⟨kp, 4, none⟩ (.int .i64 0)).setCell ⟨kp, 5, none⟩ (.int .i64 0)) kp zs p q A n c (.slice AT 0 cT) [] 0 0 v out M := by
  have hl := h.lr
  have ho : Only kp w (w.setCell ⟨kp, 3, none⟩ (.slice AT 0 cT)) := (Only.refl kp w).set_ 3 _
  have h3 : LR w0 (w.setCell ⟨kp, 3, none⟩ (.slice AT 0 cT)) kp A n c (hbits zs p (8 * q - p)) (8 * q - p) (.slice AT 0 cT) [] la ln v out M := by
    refine ⟨?_, hl.row.same6 fun b hb hlt => Below.heap_setCell w ⟨kp, 3, none⟩ _ b (fun e => hl.ov (by rw [hb]; exact congrArg some e)), hl.tab.cut0.same fun b hb => Below.heap_setCell w ⟨kp, 3, none⟩ _ b (fun e => hl.ot (by rw [← show (some b : Option Nat) = some kp from congrArg some e, ← hb]; cases AT <;> rfl)), hl.ov, fun e => hl.ot (by rw [← e]; cases AT <;> rfl), fun b hb hc => hl.vt b hb (by rw [← hc]; cases AT <;> rfl), hl.lo, hl.lm,
      hl.low.trans (ho.belowB hl.lo (Nat.le_of_lt hl.lt))⟩
    rw [heap_set w kp 3 _ _ _ hl.cell]; rfl
  exact ⟨h3.lastSet 0 0 0 0 rfl rfl, h.nn, h.qn, h.pq, h.byt⟩
end
/-- What reading leaves. -/
def RdQ (w0 : World) (kp M : Nat) (R : List Int × Int) (r : Ending) (w' : World) : Prop := r = .returned (.int .i64 R.2) ∧ ((R.2 = 0 ∧ ∃ A n c rest many tv ps la ln v, LR w0 w' kp A n c rest many tv ps la ln v R.1 M) ∨ (R.2 ≠ 0 ∧ R.1 = [] ∧ Below w0.heap.size w0 w'))
theorem RdQ.bad {w0 w' : World} {kp M : Nat} (e : Int) (he : e ≠ 0) (hb : Below w0.heap.size w0 w') : RdQ w0 kp M ([], e) (.returned (.int .i64 e)) w' := ⟨rfl, .inr ⟨he, rfl, hb⟩⟩
set_option maxHeartbeats 4000000 in
theorem lreadC (w0 w : World) (kp n c M : Nat) (A : Option Addr) (zs : List Int) (h : LR w0 w kp A n c 0 0 (.slice none 0 0) [] 0 0 (.slice none 0 0) [] M) (hb : Byt w0 w0.heap.size A n c zs) (hn : n ≤ 28000) (hM : M ≤ 9223372036854775807) (R : List Int × Int) (hR : lzDec M zs = R) :
    Calls Try.prog 15 #[.pointer (some ⟨kp, 0, none⟩)] w (RdQ w0 kp M R) := by
  have HLEN := Lib.hid hb.len
  have hq0 : LQ w0 w kp zs 0 0 A n c (.slice none 0 0) [] 0 0 (.slice none 0 0) [] M := ⟨h, by rw [hb.len]; rfl, Nat.zero_le _, Nat.zero_le _, by rw [List.drop_zero]; exact hb⟩
  have HQ0 := Lib.hid hq0
  have HR := Lib.hid hR
  have HN := Lib.hid hn
  have HM := Lib.hid hM
  clear h hb hn hM hR hq0
  go_enter Try.func15, Try.ntmps15
  go_wp2_with fail
  go_loopw [3, 4, 8, 10, 12] (fun _ _ _ _ _ wr => ∃ (p q n1 c1 la ln f : Nat) (A1 : Option Addr) (tv v : Value) (ps : List (Nat × Nat)) (out last : List Int) (T : List (List Int)), n1 ≤ n1 ∧ Hid (LQ w0 wr kp zs p q A1 n1 c1 tv ps la ln v out M) ∧ Hid (8 * q < p + 8) ∧ Hid (RI T last out ps la ln) ∧ Hid (lzD M zs f p T last out = R) ∧ Hid (8 * zs.length + 1 ≤ p + f) ∧ Hid (out.length + 3840 * f ≤ 3840 * (8 * zs.length + 1)) ∧ Hid (la ≤ 900000000 ∧ ln ≤ 900000000)) (fun _ _ _ _ _ wr => lfOf kp wr)
  case atStart => exact ⟨0, 0, n, c, 0, 0, 8 * zs.length + 1, A, _, _, [], [], [], [], Nat.le_refl _, HQ0, Lib.hid (by omega), Lib.hid (RI.start []), Lib.hid HR.out, Lib.hid (by omega), Lib.hid (by simp), Lib.hid (by omega)⟩
  case round =>
    obtain ⟨p, q, n1, c1, la, ln, f, A1, tv, v, ps, out, last, T, _, HQ, H8, HRI, HD, HF, HO, HLB⟩ := hrel
    have hpl := HRI.out.pl
    have hfew := HRI.out.few
    have hf0 := HF.out
    have hqn := HQ.out.qn
    have hpq := HQ.out.pq
    have h8 := H8.out
    have hlen := HLEN.out
    have hn := HN.out
    have hoo := HO.out
    have HC := Lib.hid (lcodeC w0 wr kp p q n1 c1 la ln M zs A1 tv v ps out HQ.out H8.out hfew (by omega))
    obtain ⟨f1, rfl⟩ : ∃ f1, f = f1 + 1 := ⟨f - 1, by omega⟩
    have hd := HD.out
    rw [lzD, ← hpl] at hd
    have hwd := wdZ_bd (258 + ps.length)
    obtain ⟨WD, hWD⟩ : ∃ WD, wdZ (258 + ps.length) = WD := ⟨_, rfl⟩
    rw [hWD] at hd hwd HC
    have hX : highZ zs p WD = -1 ∨ (0 ≤ highZ zs p WD ∧ highZ zs p WD < 4096 ∧ p + WD ≤ 8 * zs.length) := by
      unfold highZ
      split
      · exact .inl rfl
      · have h1 := hbits_bd zs p WD
        have h2 : (2 : Int) ^ WD ≤ 4096 := by
          have : ∀ r : Fin 13, (2 : Int) ^ r.val ≤ 4096 := by decide
          exact this ⟨WD, by omega⟩
        exact .inr ⟨h1.1, by omega, by omega⟩
    obtain ⟨X, hXe⟩ : ∃ X, highZ zs p WD = X := ⟨_, rfl⟩
    rw [hXe] at hd hX HC
    obtain ⟨AT, cT, htv, _⟩ := HQ.out.lr.tab.shape
    obtain ⟨NT, hNT⟩ : ∃ NT, ps.length = NT := ⟨_, rfl⟩
    rw [hNT] at htv
    subst htv
    have HRM : Hid (∀ W, lfOf kp W = 8 * zs.length - (p + WD) → p + WD ≤ 8 * zs.length → lfOf kp W < lfOf kp wr) := Lib.hid fun W h1 h2 => by
      rw [h1, HQ.out.lf]; omega
    have hlz : zs.length ≤ 28000 := by omega
    clear hWD hXe hNT
    rcases hX with rfl | ⟨x0, x4, hpw⟩
    · rw [if_pos (by decide)] at hd
      subst hd
      clear hpl hfew hf0 hqn hpq h8 hlen hn hoo hwd
      go_wp2_with (go_at_call 27; refine HC.out.mono ?_; (rintro r w1 ⟨x1, rfl, rfl, q2, A2, n2, c2, p2, hq2, hp2⟩); have HQ2 := Lib.hid hq2; clear hq2 hp2)
      go_ret
      exact RdQ.bad 2 (by decide) HQ2.out.lr.low
    · rw [if_neg (by omega)] at hd
      have i0 : (X == -1) = false := beq_eq_false_iff_ne.2 (by omega)
      by_cases h257 : X = 257
      · subst h257
        rw [if_neg (by decide), if_pos rfl] at hd
        subst hd
        clear hpl hfew hf0 hqn hpq h8 hlen hn hoo hwd i0
        go_wp2_with (go_at_call 27; refine HC.out.mono ?_; (rintro r w1 ⟨x1, rfl, rfl, q2, A2, n2, c2, p2, hq2, hp2⟩); have HQ2 := Lib.hid hq2; clear hq2 hp2)
        go_ret
        exact ⟨rfl, .inl ⟨rfl, _, _, _, _, _, _, _, _, _, _, HQ2.out.lr⟩⟩
      · have i1 : (X == 257) = false := beq_eq_false_iff_ne.2 h257
        by_cases h256 : X = 256
        · subst h256
          rw [if_pos rfl] at hd
          have HD2 := Lib.hid hd
          have HF2 : Hid (8 * zs.length + 1 ≤ p + WD + f1) := Lib.hid (by omega)
          have HO2 : Hid (out.length + 3840 * f1 ≤ 3840 * (8 * zs.length + 1)) := Lib.hid (by omega)
          have HPW := Lib.hid hpw
          have hsl := fun W => run_cutP (P := Try.prog) W 38 40 Try.underlying38 (fun w => by kernel_rfl) AT NT cT
          clear hpl hfew hf0 hqn hpq h8 hlen hn hoo hwd i0 i1 hd hpw x0 x4 hlz
          go_wp2_with (go_at_call 27; refine HC.out.mono ?_; (rintro r w1 ⟨x1, rfl, rfl, q2, A2, n2, c2, p2, hq2, hp2⟩); have HQ2 := Lib.hid hq2; have HP2 := Lib.hid (hp2 (by decide)); have k3 : w1.cell? ⟨kp, 3, none⟩ = some (.slice AT NT cT) := hq2.lr.at_ 3; have k4 : w1.cell? ⟨kp, 4, none⟩ = some (.int .i64 la) := hq2.lr.at_ 4; have k5 : w1.cell? ⟨kp, 5, none⟩ = some (.int .i64 ln) := hq2.lr.at_ 5; have f3 := hq2.lr.fr 3; have f4 := hq2.lr.fr 4; have f5 := hq2.lr.fr 5; clear hq2 hp2)
          go_roundw
          case rel =>
            obtain ⟨rfl, h9⟩ := HP2.out
            exact ⟨_, q2, n2, c2, 0, 0, f1, A2, _, v, [], out, [], [], Nat.le_refl _, Lib.hid HQ2.out.reset, Lib.hid h9, Lib.hid (RI.start out), HD2, HF2, HO2, Lib.hid (by omega)⟩
          case measure =>
            obtain ⟨rfl, h9⟩ := HP2.out
            exact HRM.out _ HQ2.out.reset.lf HPW.out
        · have i2 : (X == 256) = false := beq_eq_false_iff_ne.2 h256
          rw [if_neg h256, if_neg h257] at hd
          obtain ⟨x, rfl⟩ : ∃ x : Nat, X = x := ⟨X.toNat, by omega⟩
          have hol : out.length ≤ 900000000 := by omega
          have hlb := HLB.out
          have hMM := HM.out
          cases hx : lzRow T last (x : Int) with
          | none =>
            rw [hx] at hd
            have hd2 : (([], 4) : List Int × Int) = R := hd
            subst hd2
            have h258 : 258 ≤ x := by
              rcases Nat.lt_or_ge x 256 with h | h
              · unfold lzRow at hx
                rw [if_pos (by omega)] at hx
                cases hx
              · omega
            have HRW := Lib.hid (fun W A' n' c' rest many (hW : LR w0 W kp A' n' c' rest many (.slice AT NT cT) ps la ln v out M) => lrow_form w0 W kp n' c' many la ln M x A' rest (.slice AT NT cT) v ps out last T hW HRI.out h258 (by omega) hx hol hlb)
            clear hpl hfew hf0 hqn hpq h8 hlen hn hoo hwd hd hx h258 hlz hpw h256 h257 hlb hol hMM
            go_wp2_with (first
              | (go_at_call 27; refine HC.out.mono ?_; (rintro r w1 ⟨x1, rfl, rfl, q2, A2, n2, c2, p2, hq2, hp2⟩); have HQ2 := Lib.hid hq2; clear hq2 hp2)
              | (go_at_call 28; refine (HRW.out _ _ _ _ _ _ HQ2.out.lr).mono ?_; (rintro r w3 ⟨rfl, hb3⟩); have HB3 := Lib.hid hb3; clear hb3))
            go_ret
            exact RdQ.bad 4 (by decide) HB3.out
          | some y =>
            rw [hx] at hd
            have hlenr := lzRow_len T last y x HRI.out.len (by omega) hx
            have hnx := HRI.out.len.next hlenr
            have hyl : y.length ≤ 3840 := by have := hnx.lst; have := hnx.few; omega
            have hy0 : y ≠ [] := by
              rcases Nat.lt_or_ge x 256 with h | h
              · unfold lzRow at hx
                rw [if_pos (by omega)] at hx
                injection hx with hx
                rw [← hx]; simp
              · obtain ⟨k, a, m, _, _, _, h4, h5, _⟩ := HRI.out.found x (by omega) hx
                intro e
                rw [e] at h4
                simp at h4
                omega
            by_cases hfit : out.length + y.length ≤ M
            · have hd2 : lzD M zs f1 (p + WD) (lzT T last y) y (out ++ y) = R := by
                have : (if out.length + y.length ≤ M then lzD M zs f1 (p + WD) (lzT T last y) y (out ++ y) else ([], 7)) = R := hd
                rw [if_pos hfit] at this
                exact this
              have HRW : Hid (∀ W A' n' c' rest many, LR w0 W kp A' n' c' rest many (.slice AT NT cT) ps la ln v out M → Calls Try.prog 28 #[.pointer (some ⟨kp, 0, none⟩), .int .i64 (x : Int)] W fun r w' => r = .returned (.int .i64 0) ∧ ∃ tv' v', LR w0 w' kp A' n' c' rest many tv' (psE ps la ln) out.length y.length v' (out ++ y) M) := Lib.hid fun W A' n' c' rest many hW => by
                rcases Nat.lt_or_ge x 256 with h | h
                · have hy : y = [(x : Int)] := by
                    unfold lzRow at hx
                    rw [if_pos (by omega)] at hx
                    injection hx with hx
                    exact hx.symm
                  subst hy
                  exact lrow_byte_ok w0 W kp n' c' many la ln M x A' rest _ v ps out last T hW HRI.out h (by simp at hfit; omega) hol hlb
                · obtain ⟨k, a, m, h1, h2, h3, h4, h5, h6⟩ := HRI.out.found x (by omega) hx
                  have := lrow_tab_ok w0 W kp n' c' many la ln M x k a m A' rest _ v ps out last T hW HRI.out h1 h2 (by omega) (by omega) hMM hol hlb h3
                  rw [h6, h4] at this
                  exact this
              have HRI2 := Lib.hid (HRI.out.next hy0 hnx)
              have HD2 := Lib.hid hd2
              have HF2 : Hid (8 * zs.length + 1 ≤ p + WD + f1) := Lib.hid (by omega)
              have HO2 : Hid ((out ++ y).length + 3840 * f1 ≤ 3840 * (8 * zs.length + 1)) := Lib.hid (by rw [List.length_append]; omega)
              have HLB2 : Hid (out.length ≤ 900000000 ∧ y.length ≤ 900000000) := Lib.hid (by omega)
              have HPW := Lib.hid hpw
              have HX0 := Lib.hid x0
              clear hpl hfew hf0 hqn hpq h8 hlen hn hoo hwd hd hx hlz hpw h256 h257 hlb hol hMM hlenr hnx hyl hy0 hfit hd2 x0
              go_wp2_with (first
                | (go_at_call 27; refine HC.out.mono ?_; (rintro r w1 ⟨x1, rfl, rfl, q2, A2, n2, c2, p2, hq2, hp2⟩); have HQ2 := Lib.hid hq2; have HP2 := Lib.hid (hp2 HX0.out); clear hq2 hp2)
                | (go_at_call 28; refine (HRW.out _ _ _ _ _ _ HQ2.out.lr).mono ?_; (rintro r w3 ⟨rfl, tv3, v3, hl3⟩); have HL3 := Lib.hid hl3; clear hl3))
              go_roundw
              case rel =>
                obtain ⟨rfl, h9⟩ := HP2.out
                exact ⟨_, q2, n2, c2, _, _, f1, A2, _, v3, _, _, y, _, Nat.le_refl _, Lib.hid ⟨HL3.out, HQ2.out.nn, HQ2.out.qn, HQ2.out.pq, HQ2.out.byt⟩, Lib.hid h9, HRI2, HD2, HF2, HO2, HLB2⟩
              case measure =>
                obtain ⟨rfl, h9⟩ := HP2.out
                exact HRM.out _ (LQ.lf ⟨HL3.out, HQ2.out.nn, HQ2.out.qn, HQ2.out.pq, HQ2.out.byt⟩) HPW.out
            · have hd2 : (([], 7) : List Int × Int) = R := by
                have : (if out.length + y.length ≤ M then lzD M zs f1 (p + WD) (lzT T last y) y (out ++ y) else ([], 7)) = R := hd
                rw [if_neg hfit] at this
                exact this
              subst hd2
              have HRW : Hid (∀ W A' n' c' rest many, LR w0 W kp A' n' c' rest many (.slice AT NT cT) ps la ln v out M → Calls Try.prog 28 #[.pointer (some ⟨kp, 0, none⟩), .int .i64 (x : Int)] W fun r w' => r = .returned (.int .i64 7) ∧ Below w0.heap.size w0 w') := Lib.hid fun W A' n' c' rest many hW => by
                rcases Nat.lt_or_ge x 256 with h | h
                · have hy : y = [(x : Int)] := by
                    unfold lzRow at hx
                    rw [if_pos (by omega)] at hx
                    injection hx with hx
                    exact hx.symm
                  subst hy
                  exact lrow_byte_no w0 W kp n' c' many la ln M x A' rest _ v ps out last T hW HRI.out h (by have := hW.lm; simp at hfit; omega) hol hlb
                · obtain ⟨k, a, m, h1, h2, h3, h4, h5, h6⟩ := HRI.out.found x (by omega) hx
                  exact lrow_tab_no w0 W kp n' c' many la ln M x k a m A' rest _ v ps out last T hW HRI.out h1 h2 (by omega) (by omega) hMM hol hlb h3
              have HX0 := Lib.hid x0
              clear hpl hfew hf0 hqn hpq h8 hlen hn hoo hwd hd hx hlz hpw h256 h257 hlb hol hMM hlenr hnx hyl hy0 hfit x0
              go_wp2_with (first
                | (go_at_call 27; refine HC.out.mono ?_; (rintro r w1 ⟨x1, rfl, rfl, q2, A2, n2, c2, p2, hq2, hp2⟩); have HQ2 := Lib.hid hq2; clear hq2 hp2)
                | (go_at_call 28; refine (HRW.out _ _ _ _ _ _ HQ2.out.lr).mono ?_; (rintro r w3 ⟨rfl, hb3⟩); have HB3 := Lib.hid hb3; clear hb3))
              go_ret
              exact RdQ.bad 7 (by decide) HB3.out
end Go.Proofs.Ytpnnejedfccckaa
