/- Chapter 6, the program's own reader of signs: its state; sign, put. -/
import Derived.Test.YtojbhckgegoldaaRh6
import Derived.Test.YtojbhckgegoldaaCursor
import Derived.StillTailTactics
namespace Go.Proofs.Ytojbhckgegoldaa
open Go.RowKit
set_option linter.unusedVariables false
set_option maxRecDepth 100000

/-- The reader in block kp, its cursor in block kc, the bytes that came in a row of its own, all from block 'base' on; two cells more behind it. -/
structure RD (w : World) (base kp kc : Nat) (T : TypeId) (A : Option Addr) (n c p : Nat) (v : Value) (out : List Int) (M : Nat) (x3 x4 : Value) : Prop where
  cu : Cur w kc A n c p
  pl : p ≤ n
  rd : w.heap[kp]? = some (.cells #[.pointer (some ⟨kc, 0, none⟩), v, .int .i64 M, x3, x4] T (0, 0))
  ne : kp ≠ kc
  row : Mine w base v out.length out
  own : ∀ b, v.ownBlock = some b → b ≠ kp ∧ b ≠ kc
  bp : base ≤ kp
  bc : base ≤ kc
  lm : out.length ≤ M
section
variable {w w' : World} {base kp kc n c p M : Nat} {T : TypeId} {A : Option Addr} {v x3 x4 : Value} {out : List Int}
theorem RD.lt (h : RD w base kp kc T A n c p v out M x3 x4) : kp < w.heap.size := by
  rcases Nat.lt_or_ge kp w.heap.size with hlt | hge
  · exact hlt
  · have := h.rd; rw [Array.getElem?_eq_none hge] at this; cases this
theorem RD.base_le (h : RD w base kp kc T A n c p v out M x3 x4) : base ≤ w.heap.size := Nat.le_trans h.bp (Nat.le_of_lt h.lt)
theorem RD.c0 (h : RD w base kp kc T A n c p v out M x3 x4) : w.cell? ⟨kp, 0, none⟩ = some (.pointer (some ⟨kc, 0, none⟩)) := by rw [cell_of_row w kp 0 _ T (0, 0) h.rd]; rfl
theorem RD.c1 (h : RD w base kp kc T A n c p v out M x3 x4) : w.cell? ⟨kp, 1, none⟩ = some v := by rw [cell_of_row w kp 1 _ T (0, 0) h.rd]; rfl
theorem RD.c2 (h : RD w base kp kc T A n c p v out M x3 x4) : w.cell? ⟨kp, 2, none⟩ = some (.int .i64 M) := by rw [cell_of_row w kp 2 _ T (0, 0) h.rd]; rfl
theorem RD.c3 (h : RD w base kp kc T A n c p v out M x3 x4) : w.cell? ⟨kp, 3, none⟩ = some x3 := by rw [cell_of_row w kp 3 _ T (0, 0) h.rd]; rfl
theorem RD.c4 (h : RD w base kp kc T A n c p v out M x3 x4) : w.cell? ⟨kp, 4, none⟩ = some x4 := by rw [cell_of_row w kp 4 _ T (0, 0) h.rd]; rfl
theorem RD.fr (h : RD w base kp kc T A n c p v out M x3 x4) (i : Nat) : w.frozen? ⟨kp, i, none⟩ = false := by
  have := h.rd
  simp [World.frozen?, this]
theorem RD.drewN (h : RD w base kp kc T A n c p v out M x3 x4) (k : Nat) : RD (w.drewN k) base kp kc T A n c p v out M x3 x4 := ⟨h.cu.drewN k, h.pl, h.rd, h.ne, h.row.drewN k, h.own, h.bp, h.bc, h.lm⟩
theorem RD.more (h : RD w base kp kc T A n c p v out M x3 x4) (hb : Below w.heap.size w w') : RD w' base kp kc T A n c p v out M x3 x4 :=
  ⟨h.cu.below hb h.cu.lt, h.pl, (hb.block kp h.lt).trans h.rd, h.ne, h.row.kept hb, h.own, h.bp, h.bc, h.lm⟩
/-- The cursor alone went on. -/
theorem RD.moved (h : RD w base kp kc T A n c p v out M x3 x4) {q : Nat} (hc : Cur w' kc A n c q) (ho : Only kc w w') (hq : q ≤ n) : RD w' base kp kc T A n c q v out M x3 x4 ∧ Below base w w' :=
  ⟨⟨hc, hq, (ho.block kp h.lt h.ne).trans h.rd, h.ne, h.row.same6 fun b hb hlt => ho.block b hlt (h.own b hb).2, h.own, h.bp, h.bc, h.lm⟩, ho.belowB h.bc (Nat.le_of_lt h.cu.lt)⟩
theorem RD.set3 (h : RD w base kp kc T A n c p v out M x3 x4) (u : Value) : RD (w.setCell ⟨kp, 3, none⟩ u) base kp kc T A n c p v out M u x4 ∧ Below base w (w.setCell ⟨kp, 3, none⟩ u) := by
  refine ⟨⟨(Below.heap_setCell w ⟨kp, 3, none⟩ u kc h.ne.symm).trans h.cu, h.pl, ?_, h.ne, h.row.same6 fun b hb hlt => Below.heap_setCell w ⟨kp, 3, none⟩ u b (h.own b hb).1, h.own, h.bp, h.bc, h.lm⟩, ((Only.refl kp w).set_ 3 u).belowB h.bp (Nat.le_of_lt h.lt)⟩
  have := h.rd
  simp [World.setCell, Array.getElem?_modify, this]
theorem RD.set4 (h : RD w base kp kc T A n c p v out M x3 x4) (u : Value) : RD (w.setCell ⟨kp, 4, none⟩ u) base kp kc T A n c p v out M x3 u ∧ Below base w (w.setCell ⟨kp, 4, none⟩ u) := by
  refine ⟨⟨(Below.heap_setCell w ⟨kp, 4, none⟩ u kc h.ne.symm).trans h.cu, h.pl, ?_, h.ne, h.row.same6 fun b hb hlt => Below.heap_setCell w ⟨kp, 4, none⟩ u b (h.own b hb).1, h.own, h.bp, h.bc, h.lm⟩, ((Only.refl kp w).set_ 4 u).belowB h.bp (Nat.le_of_lt h.lt)⟩
  have := h.rd
  simp [World.setCell, Array.getElem?_modify, this]
/-- More bytes, put back. -/
theorem RD.room (h : RD w base kp kc T A n c p v out M x3 x4) {B m c2 : Nat} {A2 : Option Addr} {ys : List Int} (hy : Byt w B A2 m c2 ys) (hm : out.length + m ≤ 100000000) (hl : out.length + m ≤ M) :
    ∃ v' w', (Builtin.append_ #[25, 25] 25 #[v, .slice A2 m c2]).run Try.prog w = .ok v' w' ∧
      RD (w'.setCell ⟨kp, 1, none⟩ v') base kp kc T A n c p v' (out ++ ys) M x3 x4 ∧ Below base w (w'.setCell ⟨kp, 1, none⟩ v') ∧ w'.frozen? ⟨kp, 1, none⟩ = false ∧ w'.cell? ⟨kp, 1, none⟩ = some v ∧ ∃ A c, v' = .slice A (out.length + m) c := by
  have hbw := h.base_le
  have hkp := h.lt
  obtain ⟨v6, w6, hrun, hmi6, hbe6, hbl6, hsz6, hwn6⟩ := h.row.appendT hy 25 (by omega) hbw
  obtain ⟨A6, c6, hv6, _⟩ := hmi6.byt
  have hne : ∀ b, v6.ownBlock = some b → b ≠ kp ∧ b ≠ kc := fun b hb => by
    rcases hwn6 b hb with h1 | h1
    · exact h.own b h1
    · have := h.cu.lt; exact ⟨by omega, by omega⟩
  have hks : w6.heap[kp]? = w.heap[kp]? := hbl6 kp hkp (fun e => (h.own kp e).1 rfl)
  have hkc : w6.heap[kc]? = w.heap[kc]? := hbl6 kc h.cu.lt (fun e => (h.own kc e).2 rfl)
  have hyl := hy.len
  refine ⟨v6, w6, hrun, ⟨(Below.heap_setCell w6 ⟨kp, 1, none⟩ v6 kc h.ne.symm).trans (hkc.trans h.cu), h.pl, ?_, h.ne, ?_, hne, h.bp, h.bc, by rw [List.length_append]; omega⟩, hbe6.trans (((Only.refl kp w6).set_ 1 v6).belowB h.bp (by omega)), (World.frozen?_of_block hks).trans (h.fr 1), (World.cell?_of_block hks).trans h.c1, A6, c6, hv6⟩
  · have h6 := hks.trans h.rd
    simp [World.setCell, Array.getElem?_modify, h6]
  · rw [List.length_append, hyl]
    exact hmi6.same6 fun b hb _ => Below.heap_setCell w6 ⟨kp, 1, none⟩ v6 b (hne b hb).1
end

/-- What Next answers, and where it stands then. -/
def NxR (zs : List Int) (n p : Nat) (x : Int) (q : Nat) : Prop := (p < n ∧ x = zs.getD p 0 ∧ q = p + 1) ∨ (p = n ∧ x = -1 ∧ q = n)
theorem rdnext (base kp kc n c p M : Nat) (T : TypeId) (A : Option Addr) (v x3 x4 : Value) (out zs : List Int) (w : World) (h : RD w base kp kc T A n c p v out M x3 x4) (hb : Byt w base A n c zs) (hn : n ≤ 1000000) :
    Calls Try.prog 62 #[.pointer (some ⟨kc, 0, none⟩)] w fun r w' => ∃ x q, r = .returned (.int .i64 x) ∧ RD w' base kp kc T A n c q v out M x3 x4 ∧ Below base w w' ∧ NxR zs n p x q := by
  have hpl := h.pl
  by_cases hlt : p < n
  · refine (next_in kc n c p base A zs w h.cu hb hlt hn).mono ?_
    rintro r w' ⟨rfl, hc, ho⟩
    have hm := h.moved hc ho (by omega)
    exact ⟨_, _, rfl, hm.1, hm.2, .inl ⟨hlt, peekZ_in zs p (by rw [hb.len]; exact hlt), rfl⟩⟩
  · obtain rfl : p = n := by omega
    refine (next_out kc p c A zs w h.cu hb.len hn).mono ?_
    rintro r w' ⟨rfl, rfl⟩
    exact ⟨_, _, rfl, h, Below.refl _ _, .inr ⟨rfl, rfl, rfl⟩⟩

/-- Where a search for a sign stands: x was read last. -/
def SgR (zs : List Int) (n p : Nat) (x : Int) (q : Nat) : Prop := (x = -1 ∧ q = n ∧ sgA (zs.drop p) p = (-1, n)) ∨ (∃ q', q = q' + 1 ∧ q' < n ∧ x = zs.getD q' 0 ∧ sgA (zs.drop p) p = sgA (zs.drop q') q')
theorem SgR.first {zs : List Int} {n p q : Nat} {x : Int} (hl : zs.length = n) (h : NxR zs n p x q) : SgR zs n p x q := by
  rcases h with ⟨h1, h2, h3⟩ | ⟨h1, h2, h3⟩
  · exact .inr ⟨p, h3, h1, h2, rfl⟩
  · exact .inl ⟨h2, h3, by rw [List.drop_of_length_le (by omega)]; rw [h1]; rfl⟩
theorem SgR.next {zs : List Int} {n p q q2 : Nat} {x x2 : Int} (hl : zs.length = n) (h : SgR zs n p x q) (hw : whB x = true) (h2 : NxR zs n q x2 q2) : SgR zs n p x2 q2 := by
  rcases h with ⟨h1, _⟩ | ⟨q', h1, h3, h4, h5⟩
  · subst h1; cases hw
  · have e : sgA (zs.drop p) p = sgA (zs.drop q) q := by
      rw [h5, drop_atZ zs q' (by omega), sgA, ← h4, if_pos hw, h1]
    rcases h2 with ⟨g1, g2, g3⟩ | ⟨g1, g2, g3⟩
    · exact .inr ⟨q, g3, g1, g2, e⟩
    · exact .inl ⟨g2, g3, by rw [e, List.drop_of_length_le (by omega), g1]; rfl⟩
theorem SgR.done {zs : List Int} {n p q : Nat} {x : Int} (hl : zs.length = n) (h : SgR zs n p x q) (hw : whB x = false) : sgA (zs.drop p) p = (x, q) := by
  rcases h with ⟨h1, h2, h3⟩ | ⟨q', h1, h3, h4, h5⟩
  · rw [h3, h1, h2]
  · rw [h5, drop_atZ zs q' (by omega), sgA, ← h4, if_neg (by rw [hw]; decide), h1]
theorem SgR.pos {zs : List Int} {n p q : Nat} {x : Int} (h : SgR zs n p x q) (hw : whB x = true) : q ≤ n ∧ 0 < q := by
  rcases h with ⟨h1, _⟩ | ⟨q', h1, h3, _⟩
  · subst h1; cases hw
  · omega
set_option maxHeartbeats 1000000 in
theorem psign (base kp kc n c p M : Nat) (T : TypeId) (A : Option Addr) (v x3 x4 : Value) (out zs : List Int) (w : World) (h : RD w base kp kc T A n c p v out M x3 x4) (hb : Byt w base A n c zs) (hn : n ≤ 1000000) :
    Calls Try.prog 82 #[.pointer (some ⟨kp, 0, none⟩)] w fun r w' => ∃ x q, r = .returned (.int .i64 x) ∧ sgA (zs.drop p) p = (x, q) ∧ RD w' base kp kc T A n c q v out M x3 x4 ∧ Below base w w' := by
  have H := Lib.hid h
  have HL := Lib.hid hb.len
  have HN := Lib.hid (fun W q (hW : RD W base kp kc T A n c q v out M x3 x4) (hbe : Below base w W) => rdnext base kp kc n c q M T A v x3 x4 out zs W hW (hb.below hbe (Nat.le_refl _)) hn)
  have k0 := h.c0
  clear h hb
  go_enter Try.func82, Try.ntmps82
  go_wp2_with (go_at_call 62; refine (HN.out _ _ H.out (Below.refl _ _)).mono ?_; (rintro r w2 ⟨x2, q2, rfl, hr2, hb2, hx2⟩); have HR2 := Lib.hid hr2; have HB2 := Lib.hid hb2; have HX2 := Lib.hid (SgR.first HL.out hx2); clear hr2 hb2 hx2)
  go_loopg [3] (n + 2) (fun g xv wr => ∃ (x : Int) (q : Nat), xv = .int .i64 x ∧ q ≤ n ∧ Hid (n + 1 < g + q ∨ (x = -1 ∧ q = n)) ∧ Hid (SgR zs n p x q) ∧ Hid (RD wr base kp kc T A n c q v out M x3 x4) ∧ Hid (Below base w wr))
  case atStart =>
    refine ⟨x2, q2, rfl, HR2.out.pl, Lib.hid ?_, HX2, HR2, HB2⟩
    rcases HX2.out with ⟨h1, h2, _⟩ | ⟨q', h1, h2, _⟩
    · exact .inr ⟨h1, h2⟩
    · exact .inl (by omega)
  case round =>
    obtain ⟨x, q, rfl, hq, HM, HX, HR, HB⟩ := hrel
    have k0 := HR.out.c0
    have HWH := Lib.hid (fun W => pwhite x W)
    rcases hw : whB x with _ | _
    · have HD := Lib.hid (HX.out.done HL.out hw)
      rw [hw] at HWH
      clear hw
      go_wp2_with (first
        | (go_at_call 39; refine (HWH.out _).mono ?_; (rintro r w3 ⟨rfl, rfl⟩)))
      go_ret
      exact ⟨x, q, rfl, HD.out, HR.out, HB.out⟩
    · have hpos := HX.out.pos hw
      have hx0 : ¬ x = -1 := fun e => by subst e; cases hw
      have HG : Hid (n + 1 < gk + q ∧ q ≤ n) := Lib.hid (by
        rcases HM.out with h1 | h1
        · exact ⟨h1, hq⟩
        · exact absurd h1.1 hx0)
      have HXW := Lib.hid (fun x2 q2 h2 => HX.out.next (q2 := q2) (x2 := x2) HL.out hw h2)
      rw [hw] at HWH
      clear hw hx0
      go_wp2_with (first
        | (go_at_call 39; refine (HWH.out _).mono ?_; (rintro r w3 ⟨rfl, rfl⟩))
        | (go_at_call 62; refine (HN.out _ _ HR.out HB.out).mono ?_; (rintro r w4 ⟨x4, q4, rfl, hr4, hb4, hx4⟩); have HR4 := Lib.hid hr4; have HB4 := Lib.hid (HB.out.trans hb4); have HX4 := Lib.hid hx4; clear hr4 hb4 hx4))
      go_roundg (gk - 1)
      case rel =>
        refine ⟨x4, q4, rfl, HR4.out.pl, Lib.hid ?_, Lib.hid (HXW.out _ _ HX4.out), HR4, HB4⟩
        have := HG.out
        rcases HX4.out with ⟨h1, h2, h3⟩ | ⟨h1, h2, h3⟩
        · exact .inl (by omega)
        · exact .inr ⟨h2, h3⟩
      case measure => have := HG.out; omega

set_option maxHeartbeats 1000000 in
theorem pput_ok (base kp kc n c p M : Nat) (T : TypeId) (A : Option Addr) (v x3 x4 : Value) (out : List Int) (w : World) (h : RD w base kp kc T A n c p v out M x3 x4) (hM : M ≤ 9223372036854775807) {B m c2 : Nat} {A2 : Option Addr} {ys : List Int} (hy : Byt w B A2 m c2 ys) (hm : out.length + m ≤ 100000000) (hl : out.length + m ≤ M) :
    Calls Try.prog 84 #[.pointer (some ⟨kp, 0, none⟩), .slice A2 m c2] w fun r w' => r = .returned (.int .i64 0) ∧ ∃ v', RD w' base kp kc T A n c p v' (out ++ ys) M x3 x4 ∧ Below base w w' := by
  have H := Lib.hid h
  have k1 := h.c1
  have k2 := h.c2
  have HRM := Lib.hid (fun nq => (h.drewN nq).room (hy.drewN nq) hm hl)
  obtain ⟨A3, c3, hv, _⟩ := h.row.byt
  subst hv
  have e1 : IntKind.i64.wrap ((M : Int) - out.length) = (M : Int) - out.length := IntWalk.i64_in _ (by omega)
  have e2 : ¬ (m : Int) > (M : Int) - out.length := by omega
  have e3 : (m : Int) ≤ (M : Int) - out.length := by omega
  clear h hy
  go_enter Try.func84, Try.ntmps84
  go_wp2_with fail
  go_quiet (fail)
  go_wp2_with (first
    | (at_builtin; obtain ⟨v6, w6, hrun, hs6, hb6, hf6, hk6, A6, c6, rfl⟩ := HRM.out nq; refine Lib.wpList_append_run_sl _ rfl (.tmp 22) (.tmp 23) 25 rfl _ _ rfl rfl hrun ?_; clear hrun; have HS6 := Lib.hid hs6; have HB6 := Lib.hid hb6; clear hs6 hb6))
  go_ret
  exact ⟨rfl, _, HS6.out, (below_drewN (Below.refl _ _) nq).trans HB6.out⟩
set_option maxHeartbeats 1000000 in
theorem pput_no (base kp kc n c p M : Nat) (T : TypeId) (A : Option Addr) (v x3 x4 : Value) (out : List Int) (w : World) (h : RD w base kp kc T A n c p v out M x3 x4) (hM : M ≤ 9223372036854775807) {m c2 : Nat} {A2 : Option Addr} (hm : out.length + m ≤ 100000000) (hl : M < out.length + m) :
    Calls Try.prog 84 #[.pointer (some ⟨kp, 0, none⟩), .slice A2 m c2] w fun r w' => r = .returned (.int .i64 7) ∧ Below base w w' := by
  have H := Lib.hid h
  have k1 := h.c1
  have k2 := h.c2
  have hlm := h.lm
  obtain ⟨A3, c3, hv, _⟩ := h.row.byt
  subst hv
  have e1 : IntKind.i64.wrap ((M : Int) - out.length) = (M : Int) - out.length := IntWalk.i64_in _ (by omega)
  have e2 : (m : Int) > (M : Int) - out.length := by omega
  have e3 : ¬ (m : Int) ≤ (M : Int) - out.length := by omega
  clear h
  go_enter Try.func84, Try.ntmps84
  go_wp2_with fail
  go_quiet (fail)
  go_wp2_with fail
  go_ret
  exact ⟨rfl, below_drewN (Below.refl _ _) nq⟩
end Go.Proofs.Ytojbhckgegoldaa
