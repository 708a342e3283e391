/- Chapter 8, the project's own reader: row. -/
import Derived.Test.YtpnnejedfccckaaSa8
namespace Go.Proofs.Ytpnnejedfccckaa
open Go.RowKit
set_option linter.unusedVariables false
set_option maxRecDepth 100000

section
variable {w0 w : World} {kp n c many la ln M : Nat} {A : Option Addr} {rest : Int} {tv v : Value} {ps : List (Nat × Nat)} {out : List Int}
theorem LR.enterC (h : LR w0 w kp A n c rest many tv ps la ln v out M) (hp : ps.length ≤ 3838) (hla : la ≤ 1000000000) (hln : ln ≤ 1000000000) :
    Calls Try.prog 38 #[.pointer (some ⟨kp, 0, none⟩)] w fun r w' => r = .returned (.tuple #[]) ∧ ∃ tv', LR w0 w' kp A n c rest many tv' (psE ps la ln) la ln v out M :=
  lenterC w0 w kp n c many la ln M A rest tv v ps out h hp hla hln
/-- The last row, told anew. -/
theorem LR.lastSet (h : LR w0 w kp A n c rest many tv ps la ln v out M) (a m : Nat) (y1 y2 : Int) (h1 : y1 = a) (h2 : y2 = m) : LR w0 ((w.setCell ⟨kp, 4, none⟩ (.int .i64 y1)).setCell ⟨kp, 5, none⟩ (.int .i64 y2)) kp A n c rest many tv ps a m v out M := by
  subst h1 h2
  exact (h.set 4 (.int .i64 (a : Int)) (la' := a) rfl).set 5 (.int .i64 (m : Int)) (ln' := m) rfl
end
set_option maxHeartbeats 2000000 in
theorem lrow_form (w0 w : World) (kp n c many la ln M x : Nat) (A : Option Addr) (rest : Int) (tv v : Value) (ps : List (Nat × Nat)) (out last : List Int) (T : List (List Int)) (h : LR w0 w kp A n c rest many tv ps la ln v out M) (hri : RI T last out ps la ln) (hx0 : 258 ≤ x) (hx4 : x < 4096) (hx : lzRow T last x = none) (ho : out.length ≤ 900000000) (hlb : la ≤ 900000000 ∧ ln ≤ 900000000) :
    Calls Try.prog 28 #[.pointer (some ⟨kp, 0, none⟩), .int .i64 x] w fun r w' => r = .returned (.int .i64 4) ∧ Below w0.heap.size w0 w' := by
  have hq := hri.none_ x hx4 hx
  have HE := Lib.hid (h.enterC hri.few (by omega) (by omega))
  have hfw := psE_few hri
  obtain ⟨P2, hP2⟩ : ∃ P2, psE ps la ln = P2 := ⟨_, rfl⟩
  rw [hP2] at hq hfw HE
  have HFR := Lib.hid (fun W tv' (hW : LR w0 W kp A n c rest many tv' P2 la ln v out M) => lfreeC w0 W kp n c many la ln M A rest tv' v P2 out hW (by omega))
  obtain ⟨FR, hFR⟩ : ∃ FR, 258 + P2.length = FR := ⟨_, rfl⟩
  rw [hFR] at HFR hq
  obtain ⟨A2, c2, hv, _⟩ := h.row.byt
  subst hv
  obtain ⟨K, hK⟩ : ∃ K, out.length = K := ⟨_, rfl⟩
  have HK := Lib.hid hK
  have hKb : K ≤ 900000000 := by omega
  have i1 : ¬ (x : Int) < 256 := by omega
  have i2 : ¬ (x : Int) < FR := by omega
  have wk : IntKind.i64.wrap ((K : Int) - K) = 0 := by rw [Int.sub_self]; rfl
  clear hri hx hq hP2 hFR h hK hfw ho
  go_enter Try.func28, Try.ntmps28
  go_wp2_with (first
    | (go_at_call 38; refine HE.out.mono ?_; (rintro r w1 ⟨rfl, tv1, hl1⟩); have k6 := hl1.at_ 6; rw [HK.out] at k6; have k6' : w1.cell? ⟨kp, 6, none⟩ = some (.slice A2 K c2) := k6; have k4 : w1.cell? ⟨kp, 4, none⟩ = some (.int .i64 la) := hl1.at_ 4; have k5 : w1.cell? ⟨kp, 5, none⟩ = some (.int .i64 ln) := hl1.at_ 5; have f4 := hl1.fr 4; have f5 := hl1.fr 5; have HL1 := Lib.hid hl1; clear hl1 k6)
    | (go_at_call 37; refine (HFR.out _ _ HL1.out).mono ?_; (rintro r w3 ⟨rfl, rfl⟩)))
  go_ret
  refine ⟨rfl, (HL1.out.lastSet K 0 _ _ rfl ?_).low⟩
  omega
set_option maxHeartbeats 2000000 in
theorem lrow_byte_no (w0 w : World) (kp n c many la ln M x : Nat) (A : Option Addr) (rest : Int) (tv v : Value) (ps : List (Nat × Nat)) (out last : List Int) (T : List (List Int)) (h : LR w0 w kp A n c rest many tv ps la ln v out M) (hri : RI T last out ps la ln) (hx4 : x < 256) (hM : out.length = M) (ho : out.length ≤ 900000000) (hlb : la ≤ 900000000 ∧ ln ≤ 900000000) :
    Calls Try.prog 28 #[.pointer (some ⟨kp, 0, none⟩), .int .i64 x] w fun r w' => r = .returned (.int .i64 7) ∧ Below w0.heap.size w0 w' := by
  have HE := Lib.hid (h.enterC hri.few (by omega) (by omega))
  obtain ⟨P2, hP2⟩ : ∃ P2, psE ps la ln = P2 := ⟨_, rfl⟩
  rw [hP2] at HE
  have HPU := Lib.hid (fun W tv' (hW : LR w0 W kp A n c rest many tv' P2 la ln v out M) => lput_no w0 W kp n c many la ln M A rest (x : Int) tv' v P2 out hW hM)
  obtain ⟨A2, c2, hv, _⟩ := h.row.byt
  subst hv
  obtain ⟨K, hK⟩ : ∃ K, out.length = K := ⟨_, rfl⟩
  have HK := Lib.hid hK
  have hKb : K ≤ 900000000 := by omega
  have i1 : (x : Int) < 256 := by omega
  have wx : IntKind.u8.wrap (x : Int) = x := by rw [IntKind.wrap_u8]; omega
  have wk : IntKind.i64.wrap ((K : Int) - K) = 0 := by rw [Int.sub_self]; rfl
  clear hri hP2 h hK ho hM
  go_enter Try.func28, Try.ntmps28
  go_wp2_with (first
    | (go_at_call 38; refine HE.out.mono ?_; (rintro r w1 ⟨rfl, tv1, hl1⟩); have k6 := hl1.at_ 6; rw [HK.out] at k6; have k6' : w1.cell? ⟨kp, 6, none⟩ = some (.slice A2 K c2) := k6; have HL1 := Lib.hid hl1; clear hl1 k6)
    | (go_at_call 39; refine (HPU.out _ _ HL1.out).mono ?_; (rintro r w3 ⟨rfl, hl3⟩); have k6 := hl3.at_ 6; rw [HK.out] at k6; have m6' : w3.cell? ⟨kp, 6, none⟩ = some (.slice A2 K c2) := k6; have k4 : w3.cell? ⟨kp, 4, none⟩ = some (.int .i64 la) := hl3.at_ 4; have k5 : w3.cell? ⟨kp, 5, none⟩ = some (.int .i64 ln) := hl3.at_ 5; have f4 := hl3.fr 4; have f5 := hl3.fr 5; have HL3 := Lib.hid hl3; clear hl3 k6))
  go_ret
  refine ⟨rfl, (HL3.out.lastSet K 0 _ _ rfl ?_).low⟩
  omega
set_option maxHeartbeats 2000000 in
theorem lrow_byte_ok (w0 w : World) (kp n c many la ln M x : Nat) (A : Option Addr) (rest : Int) (tv v : Value) (ps : List (Nat × Nat)) (out last : List Int) (T : List (List Int)) (h : LR w0 w kp A n c rest many tv ps la ln v out M) (hri : RI T last out ps la ln) (hx4 : x < 256) (hM : out.length < M) (ho : out.length ≤ 900000000) (hlb : la ≤ 900000000 ∧ ln ≤ 900000000) :
    Calls Try.prog 28 #[.pointer (some ⟨kp, 0, none⟩), .int .i64 x] w fun r w' => r = .returned (.int .i64 0) ∧ ∃ tv' v', LR w0 w' kp A n c rest many tv' (psE ps la ln) out.length 1 v' (out ++ [(x : Int)]) M := by
  have HE := Lib.hid (h.enterC hri.few (by omega) (by omega))
  obtain ⟨P2, hP2⟩ : ∃ P2, psE ps la ln = P2 := ⟨_, rfl⟩
  rw [hP2] at HE ⊢
  have HPU := Lib.hid (fun W tv' (hW : LR w0 W kp A n c rest many tv' P2 la ln v out M) => lput_ok w0 W kp n c many la ln M A rest (x : Int) tv' v P2 out hW hM (by omega) ho)
  obtain ⟨A2, c2, hv, _⟩ := h.row.byt
  subst hv
  have hol : (out ++ [(x : Int)]).length = out.length + 1 := by rw [List.length_append]; rfl
  obtain ⟨K, hK⟩ : ∃ K, out.length = K := ⟨_, rfl⟩
  obtain ⟨K1, hK1⟩ : ∃ K1, K + 1 = K1 := ⟨_, rfl⟩
  rw [hK, hK1] at hol
  have HK := Lib.hid hK
  have HOL := Lib.hid hol
  have hKb : K ≤ 900000000 := by omega
  have i1 : (x : Int) < 256 := by omega
  have wx : IntKind.u8.wrap (x : Int) = x := by rw [IntKind.wrap_u8]; omega
  have e1 : (K1 : Int) - K = 1 := by omega
  have wk : IntKind.i64.wrap ((K1 : Int) - K) = 1 := by rw [e1]; rfl
  have hKb1 : K1 ≤ 900000001 := by omega
  clear hri hP2 h hK ho hM hol hK1
  go_enter Try.func28, Try.ntmps28
  go_wp2_with (first
    | (go_at_call 38; refine HE.out.mono ?_; (rintro r w1 ⟨rfl, tv1, hl1⟩); have k6 := hl1.at_ 6; rw [HK.out] at k6; have k6' : w1.cell? ⟨kp, 6, none⟩ = some (.slice A2 K c2) := k6; have HL1 := Lib.hid hl1; clear hl1 k6)
    | (go_at_call 39; refine (HPU.out _ _ HL1.out).mono ?_; (rintro r w3 ⟨rfl, v3, hl3⟩); obtain ⟨A3, c3, hv3, _⟩ := hl3.row.byt; rw [HOL.out] at hv3; have m6' : w3.cell? ⟨kp, 6, none⟩ = some v3 := hl3.at_ 6; rw [hv3] at m6'; have k4 : w3.cell? ⟨kp, 4, none⟩ = some (.int .i64 la) := hl3.at_ 4; have k5 : w3.cell? ⟨kp, 5, none⟩ = some (.int .i64 ln) := hl3.at_ 5; have f4 := hl3.fr 4; have f5 := hl3.fr 5; have HL3 := Lib.hid hl3; clear hl3 hv3))
  go_ret
  rw [HK.out]
  exact ⟨rfl, _, _, HL3.out.lastSet K 1 _ _ rfl (by first | rfl | omega)⟩
set_option maxHeartbeats 2000000 in
theorem lrow_tab_no (w0 w : World) (kp n c many la ln M x k a m : Nat) (A : Option Addr) (rest : Int) (tv v : Value) (ps : List (Nat × Nat)) (out last : List Int) (T : List (List Int)) (h : LR w0 w kp A n c rest many tv ps la ln v out M) (hri : RI T last out ps la ln) (hx : x = 258 + k) (hk : (psE ps la ln)[k]? = some (a, m)) (hM : M < out.length + m) (hm : m ≤ 1000000) (hM1 : M ≤ 9223372036854775807) (ho : out.length ≤ 900000000) (hlb : la ≤ 900000000 ∧ ln ≤ 900000000) (ha : a < out.length) :
    Calls Try.prog 28 #[.pointer (some ⟨kp, 0, none⟩), .int .i64 x] w fun r w' => r = .returned (.int .i64 7) ∧ Below w0.heap.size w0 w' := by
  have HE := Lib.hid (h.enterC hri.few (by omega) (by omega))
  have hfw := psE_few hri
  obtain ⟨P2, hP2⟩ : ∃ P2, psE ps la ln = P2 := ⟨_, rfl⟩
  rw [hP2] at HE hk hfw
  have hkl := (List.getElem?_eq_some_iff.1 hk).1
  have HFR := Lib.hid (fun W tv' (hW : LR w0 W kp A n c rest many tv' P2 la ln v out M) => lfreeC w0 W kp n c many la ln M A rest tv' v P2 out hW (by omega))
  have HAG := Lib.hid (fun W tv' (hW : LR w0 W kp A n c rest many tv' P2 la ln v out M) => lagain_no w0 W kp n c many la ln M a m A rest tv' v P2 out hW hM hm hM1 ho)
  obtain ⟨FR, hFR⟩ : ∃ FR, 258 + P2.length = FR := ⟨_, rfl⟩
  obtain ⟨PL, hPL⟩ : ∃ PL, P2.length = PL := ⟨_, rfl⟩
  rw [hFR] at HFR
  have HPL := Lib.hid hPL
  have HCELL := Lib.hid (fun W tv' (hW : LR w0 W kp A n c rest many tv' P2 la ln v out M) => hW.tab.cell k (a, m) hk)
  rw [hPL] at HCELL
  obtain ⟨A2, c2, hv, _⟩ := h.row.byt
  subst hv
  obtain ⟨K, hK⟩ : ∃ K, out.length = K := ⟨_, rfl⟩
  have HK := Lib.hid hK
  have hKb : K ≤ 900000000 := by omega
  have i1 : ¬ (x : Int) < 256 := by omega
  have i2 : (x : Int) < FR := by omega
  have i3 : (k : Int) < PL := by omega
  have i4 : PL ≤ 3838 := by omega
  have ex : (x : Int) - 258 = k := by omega
  have wx : IntKind.i64.wrap ((x : Int) - 258) = k := by rw [ex]; exact IntWalk.i64_in _ (by omega)
  have wk : IntKind.i64.wrap ((K : Int) - K) = 0 := by rw [Int.sub_self]; rfl
  clear hri hP2 h hK ho hM hk hfw hFR hPL hkl ha
  subst hx
  go_enter Try.func28, Try.ntmps28
  go_wp2_with (first
    | (go_at_call 38; refine HE.out.mono ?_; (rintro r w1 ⟨rfl, tv1, hl1⟩); have k6 := hl1.at_ 6; rw [HK.out] at k6; have k6' : w1.cell? ⟨kp, 6, none⟩ = some (.slice A2 K c2) := k6; have k3 : w1.cell? ⟨kp, 3, none⟩ = some tv1 := hl1.at_ 3; have HL1 := Lib.hid hl1; obtain ⟨gT, cT, htv, q0, q1⟩ := HCELL.out _ _ hl1; dsimp only at q0 q1; subst htv; clear hl1 k6)
    | (go_at_call 37; refine (HFR.out _ _ HL1.out).mono ?_; (rintro r w3 ⟨rfl, rfl⟩))
    | (go_at_call 40; refine (HAG.out _ _ HL1.out).mono ?_; (rintro r w3 ⟨rfl, hl3⟩); have k6 := hl3.at_ 6; rw [HK.out] at k6; have m6' : w3.cell? ⟨kp, 6, none⟩ = some (.slice A2 K c2) := k6; have k4 : w3.cell? ⟨kp, 4, none⟩ = some (.int .i64 la) := hl3.at_ 4; have k5 : w3.cell? ⟨kp, 5, none⟩ = some (.int .i64 ln) := hl3.at_ 5; have f4 := hl3.fr 4; have f5 := hl3.fr 5; have HL3 := Lib.hid hl3; clear hl3 k6))
  go_ret
  refine ⟨rfl, (HL3.out.lastSet K 0 _ _ rfl ?_).low⟩
  omega
set_option maxHeartbeats 2000000 in
theorem lrow_tab_ok (w0 w : World) (kp n c many la ln M x k a m : Nat) (A : Option Addr) (rest : Int) (tv v : Value) (ps : List (Nat × Nat)) (out last : List Int) (T : List (List Int)) (h : LR w0 w kp A n c rest many tv ps la ln v out M) (hri : RI T last out ps la ln) (hx : x = 258 + k) (hk : (psE ps la ln)[k]? = some (a, m)) (hM : out.length + m ≤ M) (hm : m ≤ 1000000) (hM1 : M ≤ 9223372036854775807) (ho : out.length ≤ 900000000) (hlb : la ≤ 900000000 ∧ ln ≤ 900000000) (ha : a < out.length) :
    Calls Try.prog 28 #[.pointer (some ⟨kp, 0, none⟩), .int .i64 x] w fun r w' => r = .returned (.int .i64 0) ∧ ∃ tv' v', LR w0 w' kp A n c rest many tv' (psE ps la ln) out.length m v' (cpy out a m) M := by
  have HE := Lib.hid (h.enterC hri.few (by omega) (by omega))
  have hfw := psE_few hri
  obtain ⟨P2, hP2⟩ : ∃ P2, psE ps la ln = P2 := ⟨_, rfl⟩
  rw [hP2] at HE hk hfw ⊢
  have hkl := (List.getElem?_eq_some_iff.1 hk).1
  have HFR := Lib.hid (fun W tv' (hW : LR w0 W kp A n c rest many tv' P2 la ln v out M) => lfreeC w0 W kp n c many la ln M A rest tv' v P2 out hW (by omega))
  have HAG := Lib.hid (fun W tv' (hW : LR w0 W kp A n c rest many tv' P2 la ln v out M) => lagain_ok w0 W kp n c many la ln M a m A rest tv' v P2 out hW hM hm hM1 ho ha)
  obtain ⟨FR, hFR⟩ : ∃ FR, 258 + P2.length = FR := ⟨_, rfl⟩
  obtain ⟨PL, hPL⟩ : ∃ PL, P2.length = PL := ⟨_, rfl⟩
  rw [hFR] at HFR
  have HPL := Lib.hid hPL
  have HCELL := Lib.hid (fun W tv' (hW : LR w0 W kp A n c rest many tv' P2 la ln v out M) => hW.tab.cell k (a, m) hk)
  rw [hPL] at HCELL
  obtain ⟨A2, c2, hv, _⟩ := h.row.byt
  subst hv
  have hol := cpy_len m out a
  obtain ⟨K, hK⟩ : ∃ K, out.length = K := ⟨_, rfl⟩
  obtain ⟨K1, hK1⟩ : ∃ K1, K + m = K1 := ⟨_, rfl⟩
  rw [hK, hK1] at hol
  have HOL := Lib.hid hol
  have HK := Lib.hid hK
  have hKb : K ≤ 900000000 := by omega
  have i1 : ¬ (x : Int) < 256 := by omega
  have i2 : (x : Int) < FR := by omega
  have i3 : (k : Int) < PL := by omega
  have i4 : PL ≤ 3838 := by omega
  have ex : (x : Int) - 258 = k := by omega
  have wx : IntKind.i64.wrap ((x : Int) - 258) = k := by rw [ex]; exact IntWalk.i64_in _ (by omega)
  have e1 : (K1 : Int) - K = m := by omega
  have wk : IntKind.i64.wrap ((K1 : Int) - K) = m := by rw [e1]; exact IntWalk.i64_in _ (by omega)
  have hKb1 : K1 ≤ 910000000 := by omega
  clear hri hP2 h hK ho hM hk hfw hFR hPL hkl ha hol hK1
  subst hx
  go_enter Try.func28, Try.ntmps28
  go_wp2_with (first
    | (go_at_call 38; refine HE.out.mono ?_; (rintro r w1 ⟨rfl, tv1, hl1⟩); have k6 := hl1.at_ 6; rw [HK.out] at k6; have k6' : w1.cell? ⟨kp, 6, none⟩ = some (.slice A2 K c2) := k6; have k3 : w1.cell? ⟨kp, 3, none⟩ = some tv1 := hl1.at_ 3; have HL1 := Lib.hid hl1; obtain ⟨gT, cT, htv, q0, q1⟩ := HCELL.out _ _ hl1; dsimp only at q0 q1; subst htv; clear hl1 k6)
    | (go_at_call 37; refine (HFR.out _ _ HL1.out).mono ?_; (rintro r w3 ⟨rfl, rfl⟩))
    | (go_at_call 40; refine (HAG.out _ _ HL1.out).mono ?_; (rintro r w3 ⟨rfl, v3, hl3⟩); obtain ⟨A3, c3, hv3, _⟩ := hl3.row.byt; rw [HOL.out] at hv3; have m6' : w3.cell? ⟨kp, 6, none⟩ = some v3 := hl3.at_ 6; rw [hv3] at m6'; have k4 : w3.cell? ⟨kp, 4, none⟩ = some (.int .i64 la) := hl3.at_ 4; have k5 : w3.cell? ⟨kp, 5, none⟩ = some (.int .i64 ln) := hl3.at_ 5; have f4 := hl3.fr 4; have f5 := hl3.fr 5; have HL3 := Lib.hid hl3; clear hl3 hv3))
  go_ret
  rw [HK.out]
  exact ⟨rfl, _, _, HL3.out.lastSet K m _ _ rfl (by first | rfl | omega)⟩
end Go.Proofs.Ytpnnejedfccckaa
