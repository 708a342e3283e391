/- Chapter 8, the project's own reader: its state, free, code. -/
import Derived.Test.YtpnnejedfccckaaWd8
import Derived.Test.YtpnnejedfccckaaLr8
import Derived.Test.YtpnnejedfccckaaPp8
import Derived.Test.YtpnnejedfccckaaSi7
import Derived.Test.YtpnnejedfccckaaKp8
namespace Go.Proofs.Ytpnnejedfccckaa
open Go.RowKit
set_option linter.unusedVariables false
set_option maxRecDepth 100000

theorem hbits_add (zs : List Int) (p a : Nat) : ∀ b, hbits zs p (a + b) = hbits zs p a * 2 ^ b + hbits zs (p + a) b
  | 0 => by simp [hbits]
  | b + 1 => by
    rw [← Nat.add_assoc, hbits, hbits_add zs p a b, hbits, Int.pow_succ, Nat.add_assoc, Int.add_mul, Int.mul_assoc]
    omega
theorem hbits_byte (zs : List Int) (q : Nat) (h0 : 0 ≤ zs.getD q 0) (h1 : zs.getD q 0 < 256) : hbits zs (8 * q) 8 = zs.getD q 0 := by
  simp only [hbits, hbit]
  rw [show (8 * q + 0) / 8 = q by omega, show (8 * q + 1) / 8 = q by omega, show (8 * q + 2) / 8 = q by omega, show (8 * q + 3) / 8 = q by omega, show (8 * q + 4) / 8 = q by omega, show (8 * q + 5) / 8 = q by omega, show (8 * q + 6) / 8 = q by omega, show (8 * q + 7) / 8 = q by omega,
    show (8 * q + 0) % 8 = 0 by omega, show (8 * q + 1) % 8 = 1 by omega, show (8 * q + 2) % 8 = 2 by omega, show (8 * q + 3) % 8 = 3 by omega, show (8 * q + 4) % 8 = 4 by omega, show (8 * q + 5) % 8 = 5 by omega, show (8 * q + 6) % 8 = 6 by omega, show (8 * q + 7) % 8 = 7 by omega]
  simp only [Nat.reduceSub, Int.reducePow]
  generalize zs.getD q 0 = z at h0 h1 ⊢
  omega
theorem or_byteL (x z : Int) (x0 : 0 ≤ x) (x1 : x < 1000000) (z0 : 0 ≤ z) (z1 : z < 256) : bits .or .i64 (x * 256) z = x * 256 + z := by
  obtain ⟨a, rfl⟩ : ∃ a : Nat, z = a := ⟨z.toNat, by omega⟩
  obtain ⟨b, rfl⟩ : ∃ b : Nat, x = b := ⟨x.toNat, by omega⟩
  have e0 : (b : Int) * 256 = ((b * 256 : Nat) : Int) := by simp
  have f : ∀ y : Nat, y < 9223372036854775808 → (BitVec.ofInt 64 (y : Int)).toNat = y := fun y hy => by
    rw [BitVec.ofInt_natCast, BitVec.toNat_ofNat]; exact Nat.mod_eq_of_lt (by omega)
  rw [e0]
  show IntKind.i64.wrap ((BitVec.ofInt 64 ((b * 256 : Nat) : Int) ||| BitVec.ofInt 64 (a : Int)).toNat : Int) = _
  rw [BitVec.toNat_or, f _ (by omega), f _ (by omega)]
  have h := Nat.two_pow_add_eq_or_of_lt (i := 8) (b := a) (by omega) b
  rw [Nat.mul_comm b, show (256 : Nat) = 2 ^ 8 from rfl, ← h, IntWalk.i64_in _ (by omega)]
  omega

/-- Places of rows, two cells each. -/
def plsC (ps : List (Nat × Nat)) : List Value := ps.flatMap fun p => [.int .i64 (p.1 : Int), .int .i64 (p.2 : Int)]
theorem plsC_len : ∀ ps : List (Nat × Nat), (plsC ps).length = ps.length * 2
  | [] => rfl
  | p :: ps => by
    have := plsC_len ps
    simp only [plsC, List.flatMap_cons, List.length_append, List.length_cons, List.length_nil] at this ⊢
    omega
theorem plsC_get : ∀ (ps : List (Nat × Nat)) (k : Nat) (p : Nat × Nat), ps[k]? = some p → (plsC ps)[k * 2]? = some (.int .i64 (p.1 : Int)) ∧ (plsC ps)[k * 2 + 1]? = some (.int .i64 (p.2 : Int))
  | [], k, p, h => by simp at h
  | p0 :: ps, 0, p, h => by
    simp at h
    subst h
    exact ⟨rfl, rfl⟩
  | p0 :: ps, k + 1, p, h => by
    have := plsC_get ps k p (by simpa using h)
    rw [show (k + 1) * 2 = k * 2 + 1 + 1 by omega]
    exact this
def OwnP (w : World) (base : Nat) (v : Value) (ps : List (Nat × Nat)) : Prop := w.ownsRow base 40 2 v ps.length (plsC ps)
section
variable {w w' : World} {base : Nat} {v : Value} {ps : List (Nat × Nat)}
theorem OwnP.lt (h : OwnP w base v ps) (b : Nat) (hb : v.ownBlock = some b) : b < w.heap.size ∧ base ≤ b := by
  rcases h.2 with ⟨rfl, _⟩ | ⟨b', cap, cur, rfl, h2, hh, _⟩
  · cases hb
  · injection hb with hb
    dsimp only at hb
    subst hb
    refine ⟨?_, h2⟩
    rcases Nat.lt_or_ge b' w.heap.size with hlt | hge
    · exact hlt
    · rw [Array.getElem?_eq_none hge] at hh; cases hh
theorem OwnP.same (h : OwnP w base v ps) (hk : ∀ b, v.ownBlock = some b → w'.heap[b]? = w.heap[b]?) : OwnP w' base v ps := by
  refine ⟨h.1, ?_⟩
  rcases h.2 with h0 | ⟨b, cap, cur, hv, hb, hh, hr⟩
  · exact .inl h0
  · exact .inr ⟨b, cap, cur, hv, hb, (hk b (by rw [hv]; rfl)).trans hh, hr⟩
theorem OwnP.shape (h : OwnP w base v ps) : ∃ A c, v = .slice A ps.length c ∧ ps.length ≤ c := by
  rcases h.2 with ⟨rfl, h0⟩ | ⟨b, cap, cur, hv, _, _, hc, _⟩
  · exact ⟨none, 0, by rw [h0], by omega⟩
  · exact ⟨_, cap, hv, hc⟩
theorem OwnP.cell (h : OwnP w base v ps) (k : Nat) (p : Nat × Nat) (hk : ps[k]? = some p) : ∃ g c, v = .slice (some ⟨g, 0, none⟩) ps.length c ∧ w.cell? ⟨g, k * 2, none⟩ = some (.int .i64 (p.1 : Int)) ∧ w.cell? ⟨g, k * 2 + 1, none⟩ = some (.int .i64 (p.2 : Int)) := by
  have hlt := (List.getElem?_eq_some_iff.1 hk).1
  obtain ⟨h1, h2⟩ := plsC_get ps k p hk
  rcases h.2 with ⟨rfl, h0⟩ | ⟨g, cap, cur, rfl, hb, hh, hn, hm, hs, ht⟩
  · omega
  · refine ⟨g, cap, rfl, ?_, ?_⟩
    · rw [cell_of_row w g _ cur _ (0, 0) hh, ← h1, ← ht, List.getElem?_take_of_lt (by omega)]
      simp
    · rw [cell_of_row w g _ cur _ (0, 0) hh, ← h2, ← ht, List.getElem?_take_of_lt (by omega)]
      simp
/-- Cut to nothing. -/
theorem OwnP.cut0 {A : Option Addr} {n c : Nat} (h : OwnP w base (.slice A n c) ps) : OwnP w base (.slice A 0 c) [] := by
  refine ⟨rfl, ?_⟩
  rcases h.2 with ⟨e, h0⟩ | ⟨g, cap, cur, e, hb, hh, hn, hm, hs, ht⟩
  · injection e with e1 e2 e3
    subst e1 e3
    exact .inl ⟨rfl, rfl⟩
  · injection e with e1 e2 e3
    subst e1 e3
    exact .inr ⟨g, _, cur, rfl, hb, hh, Nat.zero_le _, hm, hs, rfl⟩
end
/-- The reader in block kp. -/
structure LR (w0 w : World) (kp : Nat) (A : Option Addr) (n c : Nat) (rest : Int) (many : Nat) (tv : Value) (ps : List (Nat × Nat)) (la ln : Nat) (v : Value) (out : List Int) (M : Nat) : Prop where
  cell : w.heap[kp]? = some (.cells #[.slice A n c, .int .i64 rest, .int .i64 many, tv, .int .i64 la, .int .i64 ln, v, .int .i64 M] 42 (0, 0))
  row : Mine w w0.heap.size v out.length out
  tab : OwnP w w0.heap.size tv ps
  ov : v.ownBlock ≠ some kp
  ot : tv.ownBlock ≠ some kp
  vt : ∀ b, v.ownBlock = some b → tv.ownBlock ≠ some b
  lo : w0.heap.size ≤ kp
  lm : out.length ≤ M
  low : Below w0.heap.size w0 w
section
variable {w0 w w' : World} {kp n c many la ln M : Nat} {A : Option Addr} {rest : Int} {tv v : Value} {ps : List (Nat × Nat)} {out : List Int}
theorem LR.lt (h : LR w0 w kp A n c rest many tv ps la ln v out M) : kp < w.heap.size := by
  rcases Nat.lt_or_ge kp w.heap.size with hlt | hge
  · exact hlt
  · have := h.cell; rw [Array.getElem?_eq_none hge] at this; cases this
theorem LR.at_ (h : LR w0 w kp A n c rest many tv ps la ln v out M) (i : Nat) : w.cell? ⟨kp, i, none⟩ = #[.slice A n c, .int .i64 rest, .int .i64 many, tv, .int .i64 la, .int .i64 ln, v, .int .i64 M][i]? := cell_of_row w kp i _ _ (0, 0) h.cell
theorem LR.fr (h : LR w0 w kp A n c rest many tv ps la ln v out M) (i : Nat) : w.frozen? ⟨kp, i, none⟩ = false := by
  have := h.cell
  simp [World.frozen?, this]
theorem LR.drewN (h : LR w0 w kp A n c rest many tv ps la ln v out M) (k : Nat) : LR w0 (w.drewN k) kp A n c rest many tv ps la ln v out M := ⟨h.cell, h.row.drewN k, h.tab.same fun _ _ => rfl, h.ov, h.ot, h.vt, h.lo, h.lm, below_drewN h.low k⟩
/-- A field set. -/
theorem LR.set (h : LR w0 w kp A n c rest many tv ps la ln v out M) (i : Nat) (u : Value) {A' : Option Addr} {n' c' many' la' ln' : Nat} {rest' : Int} (e : [Value.slice A n c, .int .i64 rest, .int .i64 many, tv, .int .i64 la, .int .i64 ln, v, .int .i64 M].set i u = [Value.slice A' n' c', .int .i64 rest', .int .i64 many', tv, .int .i64 la', .int .i64 ln', v, .int .i64 M]) :
    LR w0 (w.setCell ⟨kp, i, none⟩ u) kp A' n' c' rest' many' tv ps la' ln' v out M := by
  have ho : Only kp w (w.setCell ⟨kp, i, none⟩ u) := (Only.refl kp w).set_ i u
  refine ⟨?_, h.row.same6 fun b hb hlt => Below.heap_setCell w ⟨kp, i, none⟩ u b (fun e => h.ov (by rw [hb]; exact congrArg some e)), h.tab.same fun b hb => Below.heap_setCell w ⟨kp, i, none⟩ u b (fun e => h.ot (by rw [hb]; exact congrArg some e)), h.ov, h.ot, h.vt, h.lo, h.lm,
    h.low.trans (ho.belowB h.lo (Nat.le_of_lt h.lt))⟩
  rw [heap_set w kp i u _ _ h.cell, e]
/-- The reader with its bits: p of them read, q bytes begun. -/
structure LQ (w0 w : World) (kp : Nat) (zs : List Int) (p q : Nat) (A : Option Addr) (n c : Nat) (tv : Value) (ps : List (Nat × Nat)) (la ln : Nat) (v : Value) (out : List Int) (M : Nat) : Prop where
  lr : LR w0 w kp A n c (hbits zs p (8 * q - p)) (8 * q - p) tv ps la ln v out M
  nn : n = zs.length - q
  qn : q ≤ zs.length
  pq : p ≤ 8 * q
  byt : Byt w0 w0.heap.size A n c (zs.drop q)
end
def mnOf (kp : Nat) (w : World) : Nat := match w.cell? ⟨kp, 2, none⟩ with | some (.int _ z) => z.toNat | _ => 0
theorem Byt.rest8 {w : World} {B n c : Nat} {A : Option Addr} {zs : List Int} (h : Byt w B A n c zs) {l : Nat} (hl : l ≤ n) : Byt w B (cutA A c l) (n - l) (c - l) (zs.drop l) := by
  have := h.cut (l := l) (m := n - l) (by omega)
  rwa [List.take_of_length_le (by rw [List.length_drop, h.len]; exact Nat.le_refl _)] at this
theorem lt_mn {a b m : Nat} (h1 : a = m + 8) (h2 : b = m) (hm : m < 20) : 100 - a < 100 - b := by omega
theorem LQ.mn {w0 w : World} {kp p q n c la ln M : Nat} {zs : List Int} {A : Option Addr} {tv v : Value} {ps : List (Nat × Nat)} {out : List Int} (h : LQ w0 w kp zs p q A n c tv ps la ln v out M) : mnOf kp w = 8 * q - p := by
  have c2 : w.cell? ⟨kp, 2, none⟩ = some (.int .i64 ((8 * q - p : Nat) : Int)) := h.lr.at_ 2
  simp [mnOf, c2]
theorem lfreeC (w0 w : World) (kp n c many la ln M : Nat) (A : Option Addr) (rest : Int) (tv v : Value) (ps : List (Nat × Nat)) (out : List Int) (h : LR w0 w kp A n c rest many tv ps la ln v out M) (hp : ps.length ≤ 100000) :
    Calls Try.prog 37 #[.pointer (some ⟨kp, 0, none⟩)] w fun r w' => r = .returned (.int .i64 ((258 + ps.length : Nat) : Int)) ∧ w = w' := by
  have c3 : w.cell? ⟨kp, 3, none⟩ = some tv := h.at_ 3
  obtain ⟨AT, cT, hv, _⟩ := h.tab.shape
  subst hv
  obtain ⟨K, hK⟩ : ∃ K, ps.length = K := ⟨_, rfl⟩
  rw [hK] at c3 hp ⊢
  have e1 : (258 : Int) + (K : Int) = ((258 + K : Nat) : Int) := by omega
  have w1 : IntKind.i64.wrap ((258 : Int) + (K : Int)) = ((258 + K : Nat) : Int) := by rw [e1]; exact IntWalk.i64_in _ (by omega)
  obtain ⟨R, hR⟩ : ∃ R, 258 + K = R := ⟨_, rfl⟩
  rw [hR] at e1 w1
  have HR := Lib.hid hR
  have hb : R ≤ 200000 := by omega
  clear h hK hR
  go_enter Try.func37, Try.ntmps37
  go_wp2_with fail
  go_ret
  rw [HR.out]
  exact ⟨rfl, rfl⟩
set_option maxHeartbeats 2000000 in
theorem lcodeC (w0 w : World) (kp p q n c la ln M : Nat) (zs : List Int) (A : Option Addr) (tv v : Value) (ps : List (Nat × Nat)) (out : List Int) (h : LQ w0 w kp zs p q A n c tv ps la ln v out M) (h8 : 8 * q < p + 8) (hp : ps.length ≤ 3838) (hz : zs.length ≤ 1000000) :
    Calls Try.prog 27 #[.pointer (some ⟨kp, 0, none⟩)] w fun r w' => ∃ x, r = .returned (.int .i64 x) ∧ x = highZ zs p (wdZ (258 + ps.length)) ∧
      ∃ q' A' n' c' p', LQ w0 w' kp zs p' q' A' n' c' tv ps la ln v out M ∧ (0 ≤ x → p' = p + wdZ (258 + ps.length) ∧ 8 * q' < p' + 8) := by
  have HF := Lib.hid (lfreeC w0 w kp n c _ la ln M A _ tv v ps out h.lr (by omega))
  have hwd := wdZ_bd (258 + ps.length)
  have HW := Lib.hid (fun W => pwidthC (258 + ps.length) (by omega) (by omega) W)
  obtain ⟨WD, hWD⟩ : ∃ WD, wdZ (258 + ps.length) = WD := ⟨_, rfl⟩
  obtain ⟨FR, hFR⟩ : ∃ FR, 258 + ps.length = FR := ⟨_, rfl⟩
  rw [hWD] at HW hwd ⊢
  rw [hFR] at HF HW
  have HH := Lib.hid h
  have H8 := Lib.hid h8
  clear hWD hFR h h8
  go_enter Try.func27, Try.ntmps27
  go_upto_region 2 with (first
    | (go_at_call 37; refine HF.out.mono ?_; (rintro r w1 ⟨rfl, rfl⟩))
    | (go_at_call 31; refine (HW.out _).mono ?_; (rintro r w1 ⟨rfl, rfl⟩)))
  go_loopw [8] (fun _ wr => ∃ (q' n' c' : Nat) (A' : Option Addr), n' ≤ zs.length ∧ Hid (LQ w0 wr kp zs p q' A' n' c' tv ps la ln v out M) ∧ Hid (8 * q' < p + WD + 8)) (fun _ wr => 100 - mnOf kp wr)
  case atStart => exact ⟨q, n, c, A, by have := HH.out.nn; omega, HH, Lib.hid (by have := H8.out; omega)⟩
  case round =>
    obtain ⟨q', n', c', A', hn', HQ, HB⟩ := hrel
    have hlr := HQ.out.lr
    have hnn := HQ.out.nn
    have hqn := HQ.out.qn
    have hpq := HQ.out.pq
    have h8 := HB.out
    have c0 : wr.cell? ⟨kp, 0, none⟩ = some (.slice A' n' c') := hlr.at_ 0
    have c1 : wr.cell? ⟨kp, 1, none⟩ = some (.int .i64 (hbits zs p (8 * q' - p))) := hlr.at_ 1
    have c2 : wr.cell? ⟨kp, 2, none⟩ = some (.int .i64 ((8 * q' - p : Nat) : Int)) := hlr.at_ 2
    have f0 := hlr.fr 0
    have f1 := hlr.fr 1
    have f2 := hlr.fr 2
    have hmn : mnOf kp wr = 8 * q' - p := by simp [mnOf, c2]
    obtain ⟨m, hm⟩ : ∃ m, 8 * q' - p = m := ⟨_, rfl⟩
    have hm20 : m < 20 := by omega
    have HLR := Lib.hid hlr
    rw [hm] at c1 c2 hmn HLR
    have HMN := Lib.hid hmn
    have hbd := hbits_bd zs p m
    by_cases hlt : m < WD
    · have hmi : (m : Int) < WD := by omega
      by_cases h0 : n' = 0
      · have t0 : ((n' : Int) == 0) = true := beq_iff_eq.2 (by omega)
        have HX : Hid (highZ zs p WD = -1) := Lib.hid (by unfold highZ; rw [if_pos (by omega)])
        clear hlr hnn hqn hpq h8 hmn hm hbd hlt h0
        go_wp2_with fail
        go_ret
        exact ⟨-1, rfl, HX.out.symm, q', A', n', c', p, HQ.out, fun h => absurd h (by decide)⟩
      · have t0 : ((n' : Int) == 0) = false := beq_eq_false_iff_ne.2 (by omega)
        have h11 : (2 : Int) ^ m ≤ 2048 := by
          have : ∀ r : Fin 12, (2 : Int) ^ r.val ≤ 2048 := by decide
          exact this ⟨m, by omega⟩
        have hby := HQ.out.byt.below hlr.low (Nat.le_refl _)
        have hgz := hby.getD 0
        obtain ⟨b, o, hA, _, hcc⟩ := hby.cell (by omega)
        have ck := hcc 0 (by omega)
        have hg0 : (zs.drop q').getD 0 0 = zs.getD q' 0 := by simp [List.getD]
        rw [hg0, Nat.add_zero] at ck
        rw [hg0] at hgz
        have hbyt := hbits_byte zs q' hgz.1 hgz.2
        have hadd := hbits_add zs p m 8
        rw [show p + m = 8 * q' by omega, hbyt] at hadd
        obtain ⟨z, hz⟩ : ∃ z, zs.getD q' 0 = z := ⟨_, rfl⟩
        rw [hz] at ck hgz hadd
        obtain ⟨R, hR⟩ : ∃ R, hbits zs p m = R := ⟨_, rfl⟩
        rw [hR] at c1 hbd hadd HLR
        simp only [Int.reducePow] at hadd
        have hor := or_byteL R z hbd.1 (by omega) hgz.1 hgz.2
        have wR : IntKind.i64.wrap (R * 256) = R * 256 := IntWalk.i64_in _ (by omega)
        have wR2 : wrap64 (R * 256) = R * 256 := by unfold wrap64; omega
        have hcap := HQ.out.byt.cap
        have hs1 : ∀ W, (Instr.slice 23 (.slice A' n' c') (some (.int .i64 ((1 : Nat) : Int))) none none).run Try.prog W = .ok (.slice (cutA A' c' 1) (n' - 1) (c' - 1)) W := fun W =>
          run_cutR (P := Try.prog) W 23 5 Try.underlying23 (fun w => by kernel_rfl) A' n' c' 1 (by omega) hcap
        rw [show ((1 : Nat) : Int) = 1 from rfl] at hs1
        have hbr : Byt w0 w0.heap.size (cutA A' c' 1) (n' - 1) (c' - 1) (zs.drop (q' + 1)) := by
          have := HQ.out.byt.rest8 (l := 1) (by omega)
          rw [List.drop_drop] at this
          exact this
        have HBR := Lib.hid hbr
        have HEND : Hid (∀ W y1 y2, LR w0 W kp A' n' c' R m tv ps la ln v out M → y1 = R * 256 + z → y2 = (m : Int) + 8 → LQ w0 (((W.setCell ⟨kp, 1, none⟩ (.int .i64 y1)).setCell ⟨kp, 0, none⟩ (.slice (cutA A' c' 1) (n' - 1) (c' - 1))).setCell ⟨kp, 2, none⟩ (.int .i64 y2)) kp zs p (q' + 1) (cutA A' c' 1) (n' - 1) (c' - 1) tv ps la ln v out M) := Lib.hid fun W y1 y2 hW h1 h2 => by
          have e8 : 8 * (q' + 1) - p = m + 8 := by omega
          refine ⟨?_, by omega, by omega, by omega, HBR.out⟩
          rw [e8, hadd]
          exact ((hW.set 1 (.int .i64 y1) (rest' := y1) rfl).set 0 (.slice (cutA A' c' 1) (n' - 1) (c' - 1)) rfl).set 2 (.int .i64 y2) (by rw [h1, h2]; rfl)
        have HQ8 : Hid (8 * (q' + 1) < p + WD + 8) := Lib.hid (by omega)
        have HMM : Hid (8 * (q' + 1) - p = m + 8 ∧ m < 20) := Lib.hid (by omega)
        have HNN : Hid (n' - 1 ≤ zs.length) := Lib.hid (by omega)
        have hn0 : 0 < n' := by omega
        subst hA
        obtain ⟨AS, hAS⟩ : ∃ AS, cutA (some ⟨b, o, none⟩) c' 1 = AS := ⟨_, rfl⟩
        obtain ⟨NS, hNS⟩ : ∃ NS, n' - 1 = NS := ⟨_, rfl⟩
        obtain ⟨CS, hCS⟩ : ∃ CS, c' - 1 = CS := ⟨_, rfl⟩
        rw [hAS, hNS, hCS] at hs1 HEND
        rw [hNS] at HNN
        have hmb : (m : Int) ≤ 20 := by omega
        clear hlr hnn hqn hpq h8 hmn hm hbd hlt h0 h11 hby hcc hg0 hbyt hadd hz hR hbr hAS hNS hCS HBR
        go_upto_region 5 with fail
        go_region
        go_wp2_with fail
        go_roundw
        case rel => exact ⟨q' + 1, NS, CS, AS, HNN.out, Lib.hid (HEND.out _ _ _ (HLR.out.drewN 1) rfl rfl), HQ8⟩
        case measure =>
          have h1 := (HEND.out wr _ _ HLR.out rfl rfl).mn
          rw [HMM.out.1] at h1
          exact lt_mn h1 HMN.out HMM.out.2
    · have hmi : ¬ (m : Int) < WD := by omega
      have hq9 : p + WD ≤ 8 * q' := by omega
      have HX : Hid (highZ zs p WD = hbits zs p WD) := Lib.hid (by unfold highZ; rw [if_neg (by omega)])
      obtain ⟨r, hr⟩ : ∃ r, m = WD + r := ⟨m - WD, by omega⟩
      have hadd := hbits_add zs p WD r
      rw [← hr] at hadd
      have hyb := hbits_bd zs (p + WD) r
      have hxb := hbits_bd zs p WD
      obtain ⟨R, hR⟩ : ∃ R, hbits zs p m = R := ⟨_, rfl⟩
      rw [hR] at c1 hbd hadd HLR
      obtain ⟨X, hX⟩ : ∃ X, hbits zs p WD = X := ⟨_, rfl⟩
      obtain ⟨Y, hY⟩ : ∃ Y, hbits zs (p + WD) r = Y := ⟨_, rfl⟩
      rw [hX] at hxb hadd HX
      rw [hY] at hyb hadd
      have h8r : r < 8 := by omega
      have hpr : (2 : Int) ^ r ≤ 128 ∧ 1 ≤ (2 : Int) ^ r := by
        have : ∀ r : Fin 8, (2 : Int) ^ r.val ≤ 128 ∧ 1 ≤ (2 : Int) ^ r.val := by decide
        exact this ⟨r, h8r⟩
      have hm19 : (2 : Int) ^ m ≤ 524288 := by
        have : ∀ r : Fin 20, (2 : Int) ^ r.val ≤ 524288 := by decide
        exact this ⟨m, hm20⟩
      have hdv : R / 2 ^ r = X := by
        rw [hadd, Int.add_comm, Int.add_mul_ediv_right _ _ (by omega), Int.ediv_eq_zero_of_lt hyb.1 hyb.2, Int.zero_add]
      have hmd : R % 2 ^ r = Y := by
        rw [hadd, Int.add_comm, Int.add_mul_emod_self_right]
        exact Int.emod_eq_of_lt hyb.1 hyb.2
      have hand := and_mask R r (by omega) (by omega) (by omega)
      rw [hmd] at hand
      have hsub : (m : Int) - WD = r := by omega
      have w1 : IntKind.i64.wrap ((m : Int) - WD) = r := by rw [hsub]; exact IntWalk.i64_in _ (by omega)
      have w2 : IntKind.i64.wrap ((2 : Int) ^ r) = 2 ^ r := IntWalk.i64_in _ (by omega)
      have w3 : IntKind.i64.wrap ((2 : Int) ^ r - 1) = 2 ^ r - 1 := IntWalk.i64_in _ (by omega)
      have w4 : wrap64 ((2 : Int) ^ r) = 2 ^ r := by unfold wrap64; omega
      have w5 : IntKind.i64.wrap (r : Int) = r := IntWalk.i64_in _ (by omega)
      have w6 : wrap64 (1 * (2 : Int) ^ r) = 2 ^ r := by rw [Int.one_mul]; exact w4
      have hX4 : X < 1000000 := by
        have h11 : (2 : Int) ^ WD ≤ 4096 := by
          have : ∀ r : Fin 13, (2 : Int) ^ r.val ≤ 4096 := by decide
          exact this ⟨WD, by omega⟩
        omega
      have HEND : Hid (∀ W y1 y2, LR w0 W kp A' n' c' R m tv ps la ln v out M → y1 = (r : Int) → y2 = Y → ∀ k, LQ w0 (((W.setCell ⟨kp, 2, none⟩ (.int .i64 y1)).drewN k).setCell ⟨kp, 1, none⟩ (.int .i64 y2)) kp zs (p + WD) q' A' n' c' tv ps la ln v out M) := Lib.hid fun W y1 y2 hW h1 h2 k => by
        have e8 : 8 * q' - (p + WD) = r := by omega
        refine ⟨?_, hnn, hqn, hq9, HQ.out.byt⟩
        rw [e8, hY]
        exact ((hW.set 2 (.int .i64 y1) (by rw [h1]; rfl)).drewN k).set 1 (.int .i64 y2) (by rw [h2]; rfl)
      have HQ8 : Hid (8 * q' < p + WD + 8) := HB
      have hx0 := hxb.1
      have hri : (r : Int) < 8 := by omega
      clear hlr hnn hqn hpq h8 hmn hm hbd hlt hq9 hadd hyb hxb hR hX hY h8r hmd hr hm19
      go_upto_region 9 with fail
      go_region
      go_upto_region 10 with fail
      go_region
      go_wp2_with fail
      go_ret
      exact ⟨X, rfl, HX.out.symm, q', A', n', c', p + WD, HEND.out wr (r : Int) Y HLR.out rfl rfl 2, fun _ => ⟨rfl, HQ8.out⟩⟩
end Go.Proofs.Ytpnnejedfccckaa
