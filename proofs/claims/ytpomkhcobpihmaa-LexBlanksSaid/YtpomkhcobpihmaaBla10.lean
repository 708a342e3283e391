/- Contracts of functions that the law calls, and what they lean on (a part). -/
import Derived.Test.YtpomkhcobpihmaaBla8
import Derived.Test.YtpomkhcobpihmaaBla9
namespace Go.Proofs.Ytpomkhcobpihmaa
section
open Go.RowKit
set_option linter.unusedVariables false
set_option maxRecDepth 100000
/-- The reader in block kp, its cursor in block kc, the bytes that came in a row of its own, all from block 'base' on; two cells more behind it. -/
structure RD (w : World) (base kp kc : Nat) (T : TypeId) (A : Option Addr) (n c p : Nat) (v : Value) (out : List Int) (M : Nat) (x3 x4 : Value) : Prop where
  cu : Cur w kc A n c p
  pl : p ≤ n
  rd : w.heap[kp]? = some (.cells #[.pointer (some ⟨kc, 0, none⟩), v, .int .i64 M, x3, x4] T (0, 0))
  ne : kp ≠ kc
  row : Mine w base v out.length out
  own : ∀ b, v.ownBlock = some b → b ≠ kp ∧ b ≠ kc
  bp : base ≤ kp
  bc : base ≤ kc
  lm : out.length ≤ M
section
variable {w w' : World} {base kp kc n c p M : Nat} {T : TypeId} {A : Option Addr} {v x3 x4 : Value} {out : List Int}
theorem RD.lt (h : RD w base kp kc T A n c p v out M x3 x4) : kp < w.heap.size := by
  rcases Nat.lt_or_ge kp w.heap.size with hlt | hge
  · exact hlt
  · have := h.rd; rw [Array.getElem?_eq_none hge] at this; cases this
theorem RD.base_le (h : RD w base kp kc T A n c p v out M x3 x4) : base ≤ w.heap.size := Nat.le_trans h.bp (Nat.le_of_lt h.lt)
theorem RD.c0 (h : RD w base kp kc T A n c p v out M x3 x4) : w.cell? ⟨kp, 0, none⟩ = some (.pointer (some ⟨kc, 0, none⟩)) := by rw [cell_of_row w kp 0 _ T (0, 0) h.rd]; rfl
theorem RD.c1 (h : RD w base kp kc T A n c p v out M x3 x4) : w.cell? ⟨kp, 1, none⟩ = some v := by rw [cell_of_row w kp 1 _ T (0, 0) h.rd]; rfl
theorem RD.c2 (h : RD w base kp kc T A n c p v out M x3 x4) : w.cell? ⟨kp, 2, none⟩ = some (.int .i64 M) := by rw [cell_of_row w kp 2 _ T (0, 0) h.rd]; rfl
theorem RD.c3 (h : RD w base kp kc T A n c p v out M x3 x4) : w.cell? ⟨kp, 3, none⟩ = some x3 := by rw [cell_of_row w kp 3 _ T (0, 0) h.rd]; rfl
theorem RD.c4 (h : RD w base kp kc T A n c p v out M x3 x4) : w.cell? ⟨kp, 4, none⟩ = some x4 := by rw [cell_of_row w kp 4 _ T (0, 0) h.rd]; rfl
theorem RD.fr (h : RD w base kp kc T A n c p v out M x3 x4) (i : Nat) : w.frozen? ⟨kp, i, none⟩ = false := by
  have := h.rd
  simp [World.frozen?, this]
theorem RD.drewN (h : RD w base kp kc T A n c p v out M x3 x4) (k : Nat) : RD (w.drewN k) base kp kc T A n c p v out M x3 x4 := ⟨h.cu.drewN k, h.pl, h.rd, h.ne, h.row.drewN k, h.own, h.bp, h.bc, h.lm⟩
theorem RD.more (h : RD w base kp kc T A n c p v out M x3 x4) (hb : Below w.heap.size w w') : RD w' base kp kc T A n c p v out M x3 x4 :=
  ⟨h.cu.below hb h.cu.lt, h.pl, (hb.block kp h.lt).trans h.rd, h.ne, h.row.kept hb, h.own, h.bp, h.bc, h.lm⟩
/-- The cursor alone went on. -/
theorem RD.moved (h : RD w base kp kc T A n c p v out M x3 x4) {q : Nat} (hc : Cur w' kc A n c q) (ho : Only kc w w') (hq : q ≤ n) : RD w' base kp kc T A n c q v out M x3 x4 ∧ Below base w w' :=
  ⟨⟨hc, hq, (ho.block kp h.lt h.ne).trans h.rd, h.ne, h.row.same6 fun b hb hlt => ho.block b hlt (h.own b hb).2, h.own, h.bp, h.bc, h.lm⟩, ho.belowB h.bc (Nat.le_of_lt h.cu.lt)⟩
theorem RD.set3 (h : RD w base kp kc T A n c p v out M x3 x4) (u : Value) : RD (w.setCell ⟨kp, 3, none⟩ u) base kp kc T A n c p v out M u x4 ∧ Below base w (w.setCell ⟨kp, 3, none⟩ u) := by
  refine ⟨⟨(Below.heap_setCell w ⟨kp, 3, none⟩ u kc h.ne.symm).trans h.cu, h.pl, ?_, h.ne, h.row.same6 fun b hb hlt => Below.heap_setCell w ⟨kp, 3, none⟩ u b (h.own b hb).1, h.own, h.bp, h.bc, h.lm⟩, ((Only.refl kp w).set_ 3 u).belowB h.bp (Nat.le_of_lt h.lt)⟩
  have := h.rd
  simp [World.setCell, Array.getElem?_modify, this]
theorem RD.set4 (h : RD w base kp kc T A n c p v out M x3 x4) (u : Value) : RD (w.setCell ⟨kp, 4, none⟩ u) base kp kc T A n c p v out M x3 u ∧ Below base w (w.setCell ⟨kp, 4, none⟩ u) := by
  refine ⟨⟨(Below.heap_setCell w ⟨kp, 4, none⟩ u kc h.ne.symm).trans h.cu, h.pl, ?_, h.ne, h.row.same6 fun b hb hlt => Below.heap_setCell w ⟨kp, 4, none⟩ u b (h.own b hb).1, h.own, h.bp, h.bc, h.lm⟩, ((Only.refl kp w).set_ 4 u).belowB h.bp (Nat.le_of_lt h.lt)⟩
  have := h.rd
  simp [World.setCell, Array.getElem?_modify, this]
/-- More bytes, put back. -/
theorem RD.room (h : RD w base kp kc T A n c p v out M x3 x4) {B m c2 : Nat} {A2 : Option Addr} {ys : List Int} (hy : Byt w B A2 m c2 ys) (hm : out.length + m ≤ 100000000) (hl : out.length + m ≤ M) :
    ∃ v' w', (Builtin.append_ #[23, 23] 23 #[v, .slice A2 m c2]).run Try.prog w = .ok v' w' ∧
      RD (w'.setCell ⟨kp, 1, none⟩ v') base kp kc T A n c p v' (out ++ ys) M x3 x4 ∧ Below base w (w'.setCell ⟨kp, 1, none⟩ v') ∧ w'.frozen? ⟨kp, 1, none⟩ = false ∧ w'.cell? ⟨kp, 1, none⟩ = some v ∧ ∃ A c, v' = .slice A (out.length + m) c := by
  have hbw := h.base_le
  have hkp := h.lt
  obtain ⟨v6, w6, hrun, hmi6, hbe6, hbl6, hsz6, hwn6⟩ := h.row.appendT hy 23 (by omega) hbw
  obtain ⟨A6, c6, hv6, _⟩ := hmi6.byt
  have hne : ∀ b, v6.ownBlock = some b → b ≠ kp ∧ b ≠ kc := fun b hb => by
    rcases hwn6 b hb with h1 | h1
    · exact h.own b h1
    · have := h.cu.lt; exact ⟨by omega, by omega⟩
  have hks : w6.heap[kp]? = w.heap[kp]? := hbl6 kp hkp (fun e => (h.own kp e).1 rfl)
  have hkc : w6.heap[kc]? = w.heap[kc]? := hbl6 kc h.cu.lt (fun e => (h.own kc e).2 rfl)
  have hyl := hy.len
  refine ⟨v6, w6, hrun, ⟨(Below.heap_setCell w6 ⟨kp, 1, none⟩ v6 kc h.ne.symm).trans (hkc.trans h.cu), h.pl, ?_, h.ne, ?_, hne, h.bp, h.bc, by rw [List.length_append]; omega⟩, hbe6.trans (((Only.refl kp w6).set_ 1 v6).belowB h.bp (by omega)), (World.frozen?_of_block hks).trans (h.fr 1), (World.cell?_of_block hks).trans h.c1, A6, c6, hv6⟩
  · have h6 := hks.trans h.rd
    simp [World.setCell, Array.getElem?_modify, h6]
  · rw [List.length_append, hyl]
    exact hmi6.same6 fun b hb _ => Below.heap_setCell w6 ⟨kp, 1, none⟩ v6 b (hne b hb).1
end
/-- What Next answers, and where it stands then. -/
def NxR (zs : List Int) (n p : Nat) (x : Int) (q : Nat) : Prop := (p < n ∧ x = zs.getD p 0 ∧ q = p + 1) ∨ (p = n ∧ x = -1 ∧ q = n)
theorem rdnext (base kp kc n c p M : Nat) (T : TypeId) (A : Option Addr) (v x3 x4 : Value) (out zs : List Int) (w : World) (h : RD w base kp kc T A n c p v out M x3 x4) (hb : Byt w base A n c zs) (hn : n ≤ 1000000) :
    Calls Try.prog 113 #[.pointer (some ⟨kc, 0, none⟩)] w fun r w' => ∃ x q, r = .returned (.int .i64 x) ∧ RD w' base kp kc T A n c q v out M x3 x4 ∧ Below base w w' ∧ NxR zs n p x q := by
  have hpl := h.pl
  by_cases hlt : p < n
  · refine (next_in kc n c p base A zs w h.cu hb hlt hn).mono ?_
    rintro r w' ⟨rfl, hc, ho⟩
    have hm := h.moved hc ho (by omega)
    exact ⟨_, _, rfl, hm.1, hm.2, .inl ⟨hlt, peekZ_in zs p (by rw [hb.len]; exact hlt), rfl⟩⟩
  · obtain rfl : p = n := by omega
    refine (next_out kc p c A zs w h.cu hb.len hn).mono ?_
    rintro r w' ⟨rfl, rfl⟩
    exact ⟨_, _, rfl, h, Below.refl _ _, .inr ⟨rfl, rfl, rfl⟩⟩
/-- Where a search for a sign stands: x was read last. -/
def SgR (zs : List Int) (n p : Nat) (x : Int) (q : Nat) : Prop := (x = -1 ∧ q = n ∧ sgA (zs.drop p) p = (-1, n)) ∨ (∃ q', q = q' + 1 ∧ q' < n ∧ x = zs.getD q' 0 ∧ sgA (zs.drop p) p = sgA (zs.drop q') q')
theorem SgR.first {zs : List Int} {n p q : Nat} {x : Int} (hl : zs.length = n) (h : NxR zs n p x q) : SgR zs n p x q := by
  rcases h with ⟨h1, h2, h3⟩ | ⟨h1, h2, h3⟩
  · exact .inr ⟨p, h3, h1, h2, rfl⟩
  · exact .inl ⟨h2, h3, by rw [List.drop_of_length_le (by omega)]; rw [h1]; rfl⟩
theorem SgR.next {zs : List Int} {n p q q2 : Nat} {x x2 : Int} (hl : zs.length = n) (h : SgR zs n p x q) (hw : whB x = true) (h2 : NxR zs n q x2 q2) : SgR zs n p x2 q2 := by
  rcases h with ⟨h1, _⟩ | ⟨q', h1, h3, h4, h5⟩
  · subst h1; cases hw
  · have e : sgA (zs.drop p) p = sgA (zs.drop q) q := by
      rw [h5, drop_atZ zs q' (by omega), sgA, ← h4, if_pos hw, h1]
    rcases h2 with ⟨g1, g2, g3⟩ | ⟨g1, g2, g3⟩
    · exact .inr ⟨q, g3, g1, g2, e⟩
    · exact .inl ⟨g2, g3, by rw [e, List.drop_of_length_le (by omega), g1]; rfl⟩
theorem SgR.done {zs : List Int} {n p q : Nat} {x : Int} (hl : zs.length = n) (h : SgR zs n p x q) (hw : whB x = false) : sgA (zs.drop p) p = (x, q) := by
  rcases h with ⟨h1, h2, h3⟩ | ⟨q', h1, h3, h4, h5⟩
  · rw [h3, h1, h2]
  · rw [h5, drop_atZ zs q' (by omega), sgA, ← h4, if_neg (by rw [hw]; decide), h1]
theorem SgR.pos {zs : List Int} {n p q : Nat} {x : Int} (h : SgR zs n p x q) (hw : whB x = true) : q ≤ n ∧ 0 < q := by
  rcases h with ⟨h1, _⟩ | ⟨q', h1, h3, _⟩
  · subst h1; cases hw
  · omega
set_option maxHeartbeats 1000000 in
theorem psign (base kp kc n c p M : Nat) (T : TypeId) (A : Option Addr) (v x3 x4 : Value) (out zs : List Int) (w : World) (h : RD w base kp kc T A n c p v out M x3 x4) (hb : Byt w base A n c zs) (hn : n ≤ 1000000) :
    Calls Try.prog 135 #[.pointer (some ⟨kp, 0, none⟩)] w fun r w' => ∃ x q, r = .returned (.int .i64 x) ∧ sgA (zs.drop p) p = (x, q) ∧ RD w' base kp kc T A n c q v out M x3 x4 ∧ Below base w w' := by
  have H := Lib.hid h
  have HL := Lib.hid hb.len
  have HN := Lib.hid (fun W q (hW : RD W base kp kc T A n c q v out M x3 x4) (hbe : Below base w W) => rdnext base kp kc n c q M T A v x3 x4 out zs W hW (hb.below hbe (Nat.le_refl _)) hn)
  have k0 := h.c0
  clear h hb
  go_enter Try.func135, Try.ntmps135
  go_wp2_with (go_at_call 113; refine (HN.out _ _ H.out (Below.refl _ _)).mono ?_; (rintro r w2 ⟨x2, q2, rfl, hr2, hb2, hx2⟩); have HR2 := Lib.hid hr2; have HB2 := Lib.hid hb2; have HX2 := Lib.hid (SgR.first HL.out hx2); clear hr2 hb2 hx2)
  go_loopg [3] (n + 2) (fun g xv wr => ∃ (x : Int) (q : Nat), xv = .int .i64 x ∧ q ≤ n ∧ Hid (n + 1 < g + q ∨ (x = -1 ∧ q = n)) ∧ Hid (SgR zs n p x q) ∧ Hid (RD wr base kp kc T A n c q v out M x3 x4) ∧ Hid (Below base w wr))
  case atStart =>
    refine ⟨x2, q2, rfl, HR2.out.pl, Lib.hid ?_, HX2, HR2, HB2⟩
    rcases HX2.out with ⟨h1, h2, _⟩ | ⟨q', h1, h2, _⟩
    · exact .inr ⟨h1, h2⟩
    · exact .inl (by omega)
  case round =>
    obtain ⟨x, q, rfl, hq, HM, HX, HR, HB⟩ := hrel
    have k0 := HR.out.c0
    have HWH := Lib.hid (fun W => pwhite x W)
    rcases hw : whB x with _ | _
    · have HD := Lib.hid (HX.out.done HL.out hw)
      rw [hw] at HWH
      clear hw
      go_wp2_with (first
        | (go_at_call 86; refine (HWH.out _).mono ?_; (rintro r w3 ⟨rfl, rfl⟩)))
      go_ret
      exact ⟨x, q, rfl, HD.out, HR.out, HB.out⟩
    · have hpos := HX.out.pos hw
      have hx0 : ¬ x = -1 := fun e => by subst e; cases hw
      have HG : Hid (n + 1 < gk + q ∧ q ≤ n) := Lib.hid (by
        rcases HM.out with h1 | h1
        · exact ⟨h1, hq⟩
        · exact absurd h1.1 hx0)
      have HXW := Lib.hid (fun x2 q2 h2 => HX.out.next (q2 := q2) (x2 := x2) HL.out hw h2)
      rw [hw] at HWH
      clear hw hx0
      go_wp2_with (first
        | (go_at_call 86; refine (HWH.out _).mono ?_; (rintro r w3 ⟨rfl, rfl⟩))
        | (go_at_call 113; refine (HN.out _ _ HR.out HB.out).mono ?_; (rintro r w4 ⟨x4, q4, rfl, hr4, hb4, hx4⟩); have HR4 := Lib.hid hr4; have HB4 := Lib.hid (HB.out.trans hb4); have HX4 := Lib.hid hx4; clear hr4 hb4 hx4))
      go_roundg (gk - 1)
      case rel =>
        refine ⟨x4, q4, rfl, HR4.out.pl, Lib.hid ?_, Lib.hid (HXW.out _ _ HX4.out), HR4, HB4⟩
        have := HG.out
        rcases HX4.out with ⟨h1, h2, h3⟩ | ⟨h1, h2, h3⟩
        · exact .inl (by omega)
        · exact .inr ⟨h2, h3⟩
      case measure => have := HG.out; omega
set_option maxHeartbeats 1000000 in
theorem pput_ok (base kp kc n c p M : Nat) (T : TypeId) (A : Option Addr) (v x3 x4 : Value) (out : List Int) (w : World) (h : RD w base kp kc T A n c p v out M x3 x4) (hM : M ≤ 9223372036854775807) {B m c2 : Nat} {A2 : Option Addr} {ys : List Int} (hy : Byt w B A2 m c2 ys) (hm : out.length + m ≤ 100000000) (hl : out.length + m ≤ M) :
    Calls Try.prog 139 #[.pointer (some ⟨kp, 0, none⟩), .slice A2 m c2] w fun r w' => r = .returned (.int .i64 0) ∧ ∃ v', RD w' base kp kc T A n c p v' (out ++ ys) M x3 x4 ∧ Below base w w' := by
  have H := Lib.hid h
  have k1 := h.c1
  have k2 := h.c2
  have HRM := Lib.hid (fun nq => (h.drewN nq).room (hy.drewN nq) hm hl)
  obtain ⟨A3, c3, hv, _⟩ := h.row.byt
  subst hv
  have e1 : IntKind.i64.wrap ((M : Int) - out.length) = (M : Int) - out.length := IntWalk.i64_in _ (by omega)
  have e2 : ¬ (m : Int) > (M : Int) - out.length := by omega
  have e3 : (m : Int) ≤ (M : Int) - out.length := by omega
  clear h hy
  go_enter Try.func139, Try.ntmps139
  go_wp2_with fail
  go_quiet (fail)
  go_wp2_with (first
    | (at_builtin; obtain ⟨v6, w6, hrun, hs6, hb6, hf6, hk6, A6, c6, rfl⟩ := HRM.out nq; refine Lib.wpList_append_run_sl _ rfl (.tmp 22) (.tmp 23) 23 rfl _ _ rfl rfl hrun ?_; clear hrun; have HS6 := Lib.hid hs6; have HB6 := Lib.hid hb6; clear hs6 hb6))
  go_ret
  exact ⟨rfl, _, HS6.out, (below_drewN (Below.refl _ _) nq).trans HB6.out⟩
set_option maxHeartbeats 1000000 in
theorem pput_no (base kp kc n c p M : Nat) (T : TypeId) (A : Option Addr) (v x3 x4 : Value) (out : List Int) (w : World) (h : RD w base kp kc T A n c p v out M x3 x4) (hM : M ≤ 9223372036854775807) {m c2 : Nat} {A2 : Option Addr} (hm : out.length + m ≤ 100000000) (hl : M < out.length + m) :
    Calls Try.prog 139 #[.pointer (some ⟨kp, 0, none⟩), .slice A2 m c2] w fun r w' => r = .returned (.int .i64 7) ∧ Below base w w' := by
  have H := Lib.hid h
  have k1 := h.c1
  have k2 := h.c2
  have hlm := h.lm
  obtain ⟨A3, c3, hv, _⟩ := h.row.byt
  subst hv
  have e1 : IntKind.i64.wrap ((M : Int) - out.length) = (M : Int) - out.length := IntWalk.i64_in _ (by omega)
  have e2 : (m : Int) > (M : Int) - out.length := by omega
  have e3 : ¬ (m : Int) ≤ (M : Int) - out.length := by omega
  clear h
  go_enter Try.func139, Try.ntmps139
  go_wp2_with fail
  go_quiet (fail)
  go_wp2_with fail
  go_ret
  exact ⟨rfl, below_drewN (Below.refl _ _) nq⟩
end

section
open Go.RowKit
set_option linter.unusedVariables false
set_option maxRecDepth 100000
theorem or_nib (f d : Int) (h0 : 0 ≤ f) (h1 : f ≤ 15) (d0 : 0 ≤ d) (d1 : d ≤ 15) : bits .or .i64 (f * 16) d = f * 16 + d := by
  have : ∀ a b : Fin 16, bits .or .i64 ((a.val : Int) * 16) (b.val : Int) = (a.val : Int) * 16 + (b.val : Int) := by decide +kernel
  have h := this ⟨f.toNat, by omega⟩ ⟨d.toNat, by omega⟩
  have e1 : ((f.toNat : Nat) : Int) = f := by omega
  have e2 : ((d.toNat : Nat) : Int) = d := by omega
  simp only [e1, e2] at h
  exact h
theorem pput1_ok (base kp kc n c p M : Nat) (T : TypeId) (A : Option Addr) (v x3 x4 : Value) (out : List Int) (W : World) (h : RD W base kp kc T A n c p v out M x3 x4) (hM : M ≤ 9223372036854775807) (z : Int) (hz : 0 ≤ z ∧ z < 256) (hm : out.length ≤ 1000000) (hl : out.length < M) :
    Calls Try.prog 139 #[.pointer (some ⟨kp, 0, none⟩), .slice (some ⟨W.heap.size, 0, none⟩) 1 1] (W.alloc (.cells #[.int .u8 z] 5)) fun r w' => r = .returned (.int .i64 0) ∧ ∃ v', RD w' base kp kc T A n c p v' (out ++ [z]) M x3 x4 ∧ Below base W w' :=
  (pput_ok base kp kc n c p M T A v x3 x4 out _ (h.more ((Below.refl _ _).alloc (Nat.le_refl _) (.cells #[.int .u8 z] 5))) hM (byt_lit0 W z hz) (by omega) (by omega)).mono fun r w' ⟨h1, v', h2, h3⟩ => ⟨h1, v', h2, ((Below.refl base W).alloc h.base_le _).trans h3⟩
theorem pput1_no (base kp kc n c p M : Nat) (T : TypeId) (A : Option Addr) (v x3 x4 : Value) (out : List Int) (W : World) (h : RD W base kp kc T A n c p v out M x3 x4) (hM : M ≤ 9223372036854775807) (z : Int) (hm : out.length ≤ 1000000) (hl : M ≤ out.length) :
    Calls Try.prog 139 #[.pointer (some ⟨kp, 0, none⟩), .slice (some ⟨W.heap.size, 0, none⟩) 1 1] (W.alloc (.cells #[.int .u8 z] 5)) fun r w' => r = .returned (.int .i64 7) ∧ Below base W w' :=
  (pput_no (m := 1) (c2 := 1) (A2 := some ⟨W.heap.size, 0, none⟩) base kp kc n c p M T A v x3 x4 out _ (h.more ((Below.refl _ _).alloc (Nat.le_refl _) (.cells #[.int .u8 z] 5))) hM (by omega) (by omega)).mono fun r w' ⟨h1, h3⟩ => ⟨h1, ((Below.refl base W).alloc h.base_le _).trans h3⟩
/-- What a digit answers: how the reader stands then. -/
def PdR (w w' : World) (base kp kc : Nat) (A : Option Addr) (n c p : Nat) (out : List Int) (M : Nat) (bg : Bool) (f : Int) (x e : Int) : Prop :=
  Below base w w' ∧
  ((x < 0 ∧ e = 2) ∨ (0 ≤ x ∧ dgZ x < 0 ∧ e = 4) ∨
   (0 ≤ x ∧ 0 ≤ dgZ x ∧ bg = false ∧ e = 0 ∧ ∃ v', RD w' base kp kc 135 A n c p v' out M (.bool true) (.int .i64 (dgZ x))) ∨
   (0 ≤ x ∧ 0 ≤ dgZ x ∧ bg = true ∧ M ≤ out.length ∧ e = 7) ∨
   (0 ≤ x ∧ 0 ≤ dgZ x ∧ bg = true ∧ out.length < M ∧ e = 0 ∧ ∃ v', RD w' base kp kc 135 A n c p v' (out ++ [f * 16 + dgZ x]) M (.bool false) (.int .i64 f)))
set_option maxHeartbeats 2000000 in
theorem ppdigit (base kp kc n c p M : Nat) (A : Option Addr) (v : Value) (bg : Bool) (f x : Int) (out : List Int) (w : World) (h : RD w base kp kc 135 A n c p v out M (.bool bg) (.int .i64 f)) (hM : M ≤ 9223372036854775807) (hm : out.length ≤ 1000000) (f0 : 0 ≤ f) (f1 : f ≤ 15) :
    Calls Try.prog 136 #[.pointer (some ⟨kp, 0, none⟩), .int .i64 x] w fun r w' => ∃ e : Int, r = .returned (.int .i64 e) ∧ PdR w w' base kp kc A n c p out M bg f x e := by
  have H := Lib.hid h
  have k3 := h.c3
  have k4 := h.c4
  have f3 := h.fr 3
  have f4 := h.fr 4
  have HDG := Lib.hid (fun W => pdigit x W)
  by_cases hx : x < 0
  · clear h
    go_enter Try.func136, Try.ntmps136
    go_wp2_with (first
      | (go_at_call 128; refine (HDG.out _).mono ?_; (rintro r w3 ⟨rfl, rfl⟩)))
    go_ret
    exact ⟨_, rfl, Below.refl _ _, .inl ⟨hx, rfl⟩⟩
  have hx0 : 0 ≤ x := by omega
  have hdb := dgZ_bd x
  obtain ⟨d, hd⟩ : ∃ d, dgZ x = d := ⟨_, rfl⟩
  have HD := Lib.hid hd
  rw [hd] at HDG hdb
  by_cases hd0 : d < 0
  · clear h hd
    go_enter Try.func136, Try.ntmps136
    go_wp2_with (first
      | (go_at_call 128; refine (HDG.out _).mono ?_; (rintro r w3 ⟨rfl, rfl⟩)))
    go_ret
    exact ⟨_, rfl, Below.refl _ _, .inr (.inl ⟨hx0, by rw [HD.out]; exact hd0, rfl⟩)⟩
  have hd1 : 0 ≤ d := by omega
  obtain ⟨_, hd2⟩ := hdb
  cases bg with
  | false =>
    clear h hd hx hd0
    go_enter Try.func136, Try.ntmps136
    go_wp2_with (first
      | (go_at_call 128; refine (HDG.out _).mono ?_; (rintro r w3 ⟨rfl, rfl⟩)))
    go_ret
    have h3 := H.out.set3 (.bool true)
    have h4 := h3.1.set4 (.int .i64 d)
    refine ⟨_, rfl, ?_⟩
    unfold PdR
    rw [HD.out]
    exact ⟨h3.2.trans h4.2, .inr (.inr (.inl ⟨hx0, hd1, rfl, rfl, v, h4.1⟩))⟩
  | true =>
    have hor := or_nib f d f0 f1 hd1 hd2
    have b1 : 0 ≤ f * 16 + d := by omega
    have b2 : f * 16 + d < 256 := by omega
    have h3 := h.set3 (.bool false)
    have H3 := Lib.hid h3.1
    have HB3 := Lib.hid h3.2
    have k4b := h3.1.c4
    have s1 : IntKind.i64.wrap (f * 16) = f * 16 := IntWalk.i64_in _ (by omega)
    have s2 : IntKind.u8.wrap (f * 16 + d) = f * 16 + d := by rw [IntKind.wrap_u8]; omega
    by_cases hlt : out.length < M
    · have HP := Lib.hid (fun W (hW : RD W base kp kc 135 A n c p v out M (.bool false) (.int .i64 f)) => pput1_ok base kp kc n c p M _ A v _ _ out W hW hM (f * 16 + d) ⟨b1, b2⟩ hm hlt)
      have HLT := Lib.hid hlt
      clear h hd hx hd0 h3 hlt
      go_enter Try.func136, Try.ntmps136
      go_wp2_with (first
        | (go_at_call 128; refine (HDG.out _).mono ?_; (rintro r w3 ⟨rfl, rfl⟩)))
      obtain ⟨W3, hW3⟩ : ∃ W3, w.setCell ⟨kp, 3, none⟩ (.bool false) = W3 := ⟨_, rfl⟩
      rw [hW3] at H3 HB3 k4b ⊢
      clear hW3
      go_region_with (go_at_call 139; refine (HP.out _ (H3.out.drewN _)).mono ?_; (rintro r w4 ⟨rfl, v4, hr4, hb4⟩); have HR4 := Lib.hid hr4; have HB4 := Lib.hid ((below_drewN HB3.out _).trans hb4); clear hr4 hb4)
      go_wp2
      go_ret
      refine ⟨_, rfl, ?_⟩
      unfold PdR
      rw [HD.out]
      exact ⟨HB4.out, .inr (.inr (.inr (.inr ⟨hx0, hd1, rfl, HLT.out, rfl, v4, HR4.out⟩)))⟩
    · have HP := Lib.hid (fun W (hW : RD W base kp kc 135 A n c p v out M (.bool false) (.int .i64 f)) => pput1_no base kp kc n c p M _ A v _ _ out W hW hM (f * 16 + d) hm (by omega))
      have HLT : Hid (M ≤ out.length) := Lib.hid (by omega)
      clear h hd hx hd0 h3 hlt
      go_enter Try.func136, Try.ntmps136
      go_wp2_with (first
        | (go_at_call 128; refine (HDG.out _).mono ?_; (rintro r w3 ⟨rfl, rfl⟩)))
      obtain ⟨W3, hW3⟩ : ∃ W3, w.setCell ⟨kp, 3, none⟩ (.bool false) = W3 := ⟨_, rfl⟩
      rw [hW3] at H3 HB3 k4b ⊢
      clear hW3
      go_region_with (go_at_call 139; refine (HP.out _ (H3.out.drewN _)).mono ?_; (rintro r w4 ⟨rfl, hb4⟩); have HB4 := Lib.hid ((below_drewN HB3.out _).trans hb4); clear hb4)
      go_wp2
      go_ret
      refine ⟨_, rfl, ?_⟩
      unfold PdR
      rw [HD.out]
      exact ⟨HB4.out, .inr (.inr (.inr (.inl ⟨hx0, hd1, rfl, HLT.out, rfl⟩)))⟩
/-- What read answers. -/
def PrP (w w' : World) (base kp kc : Nat) (T : TypeId) (A : Option Addr) (n c M : Nat) (R : List Int × Int) (r : Ending) : Prop :=
  Below base w w' ∧ r = .returned (.int .i64 R.2) ∧ ((R.2 = 0 ∧ ∃ q v x3 x4, RD w' base kp kc T A n c q v R.1 M x3 x4) ∨ (¬ R.2 = 0 ∧ R.1 = []))
set_option maxHeartbeats 4000000 in
theorem ppread (base kp kc n c M : Nat) (A : Option Addr) (v : Value) (zs : List Int) (w : World) (h : RD w base kp kc 135 A n c 0 v [] M (.bool false) (.int .i64 0)) (hM : M ≤ 9223372036854775807) (hb : Byt w base A n c zs) (hn : n ≤ 900000) (R : List Int × Int) (hR : unhxR M zs (-1) [] = R) :
    Calls Try.prog 131 #[.pointer (some ⟨kp, 0, none⟩)] w fun r w' => PrP w w' base kp kc 135 A n c M R r := by
  have H := Lib.hid h
  have HL := Lib.hid hb.len
  have HRNG := Lib.hid hb.rng
  have HSG := Lib.hid (fun W q v out x3 x4 (hW : RD W base kp kc 135 A n c q v out M x3 x4) (hbe : Below base w W) => psign base kp kc n c q M _ A v x3 x4 out zs W hW (hb.below hbe (Nat.le_refl _)) (by omega))
  have HR := Lib.hid hR
  clear h hb hR
  go_enter Try.func131, Try.ntmps131
  go_wp2_with (go_at_call 135; refine (HSG.out _ _ _ _ _ _ H.out (Below.refl _ _)).mono ?_; (rintro r w2 ⟨x2, q2, rfl, hx2, hr2, hb2⟩); have HR2 := Lib.hid hr2; have HB2 := Lib.hid hb2; have HX2 := Lib.hid hx2; clear hr2 hb2 hx2)
  go_loopg [3] (n + 2) (fun g xv wr => ∃ (x : Int) (q : Nat) (v : Value) (out : List Int) (bg : Bool) (f : Int), xv = .int .i64 x ∧ q ≤ n ∧ 0 ≤ f ∧ f ≤ 15 ∧ Hid (out.length + g ≤ n + 2) ∧ Hid ((x = -1 ∧ R = ([], 2) ∧ 0 < g) ∨ (0 ≤ x ∧ n + 1 < g + q ∧ unhxR M (x :: zs.drop q) (if bg = true then f else -1) out = R ∧ whB x = false)) ∧ Hid (RD wr base kp kc 135 A n c q v out M (.bool bg) (.int .i64 f)) ∧ Hid (Below base w wr))
  case atStart =>
    refine ⟨x2, q2, v, [], false, 0, rfl, HR2.out.pl, by omega, by omega, Lib.hid (by simp), Lib.hid ?_, HR2, HB2⟩
    have hx2 := HX2.out
    have hsb := sgA_bd zs 0 HRNG.out
    rw [List.drop_zero] at hx2
    rw [hx2] at hsb
    dsimp only at hsb
    rcases hsb with ⟨h1, h2⟩ | ⟨h1, h2, h3, h4, h5⟩
    · refine .inl ⟨h1, ?_, by omega⟩
      rw [← HR.out, unhx_no M zs 0 (-1) [] HRNG.out (by rw [hx2]; dsimp only; omega)]
    · refine .inr ⟨h1, by omega, ?_, h5⟩
      rw [← HR.out, unhx_sg M zs 0 (-1) [] (by rw [hx2]; exact h1), hx2]
      rfl
  case round =>
    obtain ⟨x, q, v, out, bg, f, rfl, hq, f0, f1, HO, HT, HRD, HB⟩ := hrel
    have hol := HO.out
    have HDI := Lib.hid (fun y => ppdigit base kp kc n c q M A v bg f y out wr HRD.out hM (by omega) f0 f1)
    have k3 := HRD.out.c3
    by_cases h62 : x = 62
    · subst h62
      have hT : unhxR M (62 :: zs.drop q) (if bg = true then f else -1) out = R := by
        rcases HT.out with ⟨h, _⟩ | ⟨_, _, h, _⟩
        · exact absurd h (by decide)
        · exact h
      rw [unhxR, if_neg (by decide), if_pos rfl] at hT
      cases bg with
      | false =>
        have e1 : (if false = true then f else -1 : Int) = -1 := rfl
        rw [e1, if_pos (by decide)] at hT
        clear e1
        have HR9 := Lib.hid hT
        clear hT
        go_wp2_with fail
        go_ret
        have e := HR9.out
        unfold PrP
        rw [← e]
        exact ⟨HB.out, rfl, .inl ⟨rfl, q, v, _, _, HRD.out⟩⟩
      | true =>
        rw [if_pos rfl, if_neg (by omega)] at hT
        have HR9 := Lib.hid hT
        clear hT
        go_wp2_with (go_at_call 136; refine (HDI.out 48).mono ?_; (rintro r w4 ⟨e, rfl, hb4, h4⟩); have H4 := Lib.hid h4; have HB4 := Lib.hid (HB.out.trans hb4); clear h4 hb4)
        go_ret
        have e := HR9.out
        have h9 := H4.out
        rw [show dgZ 48 = 0 by decide, Int.add_zero] at h9
        unfold PrP
        rw [← e]
        rcases h9 with ⟨h, _⟩ | ⟨_, h, _⟩ | ⟨_, _, h, _⟩ | ⟨_, _, _, hl, rfl⟩ | ⟨_, _, _, hl, rfl, v', hr⟩
        · omega
        · omega
        · cases h
        · rw [if_pos hl]
          exact ⟨HB4.out, rfl, .inr ⟨by decide, rfl⟩⟩
        · rw [if_neg (by omega)]
          exact ⟨HB4.out, rfl, .inl ⟨rfl, q, v', _, _, hr⟩⟩
    · have h62b : (x == 62) = false := beq_eq_false_iff_ne.2 h62
      have H62 := Lib.hid h62
      clear h62
      go_upto_region 5 with (go_at_call 136; refine (HDI.out _).mono ?_; (rintro r w4 ⟨e, rfl, hb4, h4⟩); have H4 := Lib.hid h4; have HB4 := Lib.hid (HB.out.trans hb4); clear h4 hb4)
      have hcase : (¬ e = 0 ∧ R = ([], e)) ∨ (e = 0 ∧ n + 1 < gk + q ∧ ∃ v' out' bg' f', 0 ≤ f' ∧ f' ≤ 15 ∧ out'.length + (gk - 1) ≤ n + 2 ∧ RD w4 base kp kc 135 A n c q v' out' M (.bool bg') (.int .i64 f') ∧ unhxR M (zs.drop q) (if bg' = true then f' else -1) out' = R) := by
        have h9 := H4.out
        rcases HT.out with ⟨hx, hR, _⟩ | ⟨hx, hg, hR, hw⟩
        · subst hx
          rcases h9 with ⟨_, rfl⟩ | ⟨h, _⟩ | ⟨h, _⟩ | ⟨h, _⟩ | ⟨h, _⟩
          · exact .inl ⟨by decide, hR⟩
          all_goals omega
        · rw [unhxR, hw, if_neg (by decide), if_neg H62.out] at hR
          rcases h9 with ⟨h, _⟩ | ⟨_, h, rfl⟩ | ⟨_, hd, hbg, rfl, v', hr⟩ | ⟨_, hd, hbg, hl, rfl⟩ | ⟨_, hd, hbg, hl, rfl, v', hr⟩
          · omega
          · rw [if_pos h] at hR
            exact .inl ⟨by decide, hR.symm⟩
          · subst hbg
            have e1 : (if false = true then f else -1 : Int) = -1 := rfl
            rw [if_neg (by omega), e1, if_pos (by decide)] at hR
            exact .inr ⟨rfl, hg, v', out, true, dgZ x, hd, (dgZ_bd x).2, by omega, hr, hR⟩
          · subst hbg
            have e1 : (if true = true then f else -1 : Int) = f := rfl
            rw [if_neg (by omega), e1, if_neg (by omega), if_pos hl] at hR
            exact .inl ⟨by decide, hR.symm⟩
          · subst hbg
            have e1 : (if true = true then f else -1 : Int) = f := rfl
            rw [if_neg (by omega), e1, if_neg (by omega), if_neg (by omega)] at hR
            exact .inr ⟨rfl, hg, v', _, false, f, f0, f1, by simp; omega, hr, hR⟩
      rcases hcase with ⟨he, hR⟩ | ⟨rfl, hg, v', out', bg', f', g0, g1, hol', hr, hR⟩
      · have hez : (e == 0) = false := beq_eq_false_iff_ne.2 he
        have HE := Lib.hid he
        have HR9 := Lib.hid hR
        clear he hR
        go_wp2_with fail
        go_ret
        unfold PrP
        rw [HR9.out]
        exact ⟨HB4.out, rfl, .inr ⟨HE.out, rfl⟩⟩
      · have HRN := Lib.hid hr
        have HR9 := Lib.hid hR
        clear hr hR
        go_wp2_with (go_at_call 135; refine (HSG.out _ _ _ _ _ _ HRN.out HB4.out).mono ?_; (rintro r w5 ⟨x5, q5, rfl, hx5, hr5, hb5⟩); have HR5 := Lib.hid hr5; have HB5 := Lib.hid (HB4.out.trans hb5); have HX5 := Lib.hid hx5; clear hr5 hb5 hx5)
        go_roundg (gk - 1)
        case rel =>
          have hsb := sgA_bd (zs.drop q) q (fun z hz => HRNG.out z (List.mem_of_mem_drop hz))
          have hx5 := HX5.out
          have hl := HL.out
          have hdl : (zs.drop q).length = n - q := by rw [List.length_drop]; omega
          rw [hx5, hdl] at hsb
          dsimp only at hsb
          refine ⟨x5, q5, v', out', bg', f', rfl, HR5.out.pl, g0, g1, Lib.hid hol', Lib.hid ?_, HR5, HB5⟩
          rcases hsb with ⟨h1, h2⟩ | ⟨h1, h2, h3, h4, h5⟩
          · refine .inl ⟨h1, ?_, by omega⟩
            rw [← HR9.out, unhx_no M _ q _ _ (fun z hz => HRNG.out z (List.mem_of_mem_drop hz)) (by rw [hx5]; dsimp only; omega)]
          · refine .inr ⟨h1, by omega, ?_, h5⟩
            rw [← HR9.out, unhx_sg M (zs.drop q) q _ _ (by rw [hx5]; exact h1), hx5]
            dsimp only
            rw [List.drop_drop, show q + (q5 - q) = q5 by omega]
        case measure => omega
theorem popen (A : Option Addr) (n c : Nat) (most : Int) (M : Nat) (hM : max most 0 = (M : Int)) (w : World) :
    Calls Try.prog 130 #[.slice A n c, .int .i64 most] w fun r w' => ∃ kc, r = .returned (.agg #[.pointer (some ⟨kc, 0, none⟩), .slice none 0 0, .int .i64 M]) ∧ w.heap.size ≤ kc ∧ Cur w' kc A n c 0 ∧ Below w.heap.size w w' := by
  have HN := Lib.hid (fun W => new_any A n c W)
  go_enter Try.func130, Try.ntmps130
  go_wp2_with (go_at_call 59; refine (HN.out _).mono ?_; (rintro r w2 ⟨rfl, rfl⟩))
  refine bodyPost_ret (v := .agg #[.pointer (some ⟨w.heap.size + 1, 0, none⟩), .slice none 0 0, .int .i64 (M : Int)]) (by simp [results, Try.results130, go_sem]) rfl ⟨w.heap.size + 1, rfl, Nat.le_succ _, ?_, ?_⟩
  · have := Cur.new (A := A) (n := n) (c := c) (w.alloc (.cells #[.pointer (some ⟨w.heap.size + 1, 0, none⟩), .slice none 0 0, .int .i64 (M : Int)] 132))
    rw [World.size_alloc] at this
    exact this
  · exact ((Below.refl _ _).alloc (Nat.le_refl _) _).alloc (by simp) _
theorem RD.new (w w2 : World) (kc n c M : Nat) (T : TypeId) (A : Option Addr) (x3 x4 : Value) (hk : w.heap.size ≤ kc) (hc : Cur w2 kc A n c 0) (hb : Below w.heap.size w w2) : RD (w2.alloc (.cells #[.pointer (some ⟨kc, 0, none⟩), .slice none 0 0, .int .i64 (M : Int), x3, x4] T)) w.heap.size w2.heap.size kc T A n c 0 (.slice none 0 0) [] M x3 x4 ∧ Below w.heap.size w (w2.alloc (.cells #[.pointer (some ⟨kc, 0, none⟩), .slice none 0 0, .int .i64 (M : Int), x3, x4] T)) :=
  ⟨⟨hc.below ((Below.refl _ _).alloc (Nat.le_refl _) _) hc.lt, Nat.zero_le _, heap_alloc_new w2 _, (by have := hc.lt; omega), Mine.nil _ _, (fun b hb => by cases hb), hb.size, hk, Nat.zero_le _⟩, hb.alloc hb.size _⟩
set_option maxHeartbeats 1000000 in
theorem pUnhex (A : Option Addr) (n c : Nat) (most : Int) (zs : List Int) (w : World) (hb : Byt w w.heap.size A n c zs) (hn : n ≤ 900000) (m0 : -9223372036854775808 ≤ most) (m1 : most ≤ 9223372036854775807) (R : List Int × Int) (hR : unhxR (max most 0).toNat zs (-1) [] = R) :
    Calls Try.prog 117 #[.slice A n c, .int .i64 most] w (ReadPost w R) := by
  obtain ⟨M, hM⟩ : ∃ M : Nat, (max most 0).toNat = M := ⟨_, rfl⟩
  rw [hM] at hR
  have hM2 : max most 0 = (M : Int) := by omega
  have HO := Lib.hid (fun W => popen A n c most M hM2 W)
  have HRD := Lib.hid (fun W kp kc v (h : RD W w.heap.size kp kc 135 A n c 0 v [] M (.bool false) (.int .i64 0)) (hbe : Below w.heap.size w W) => ppread w.heap.size kp kc n c M A v zs W h (by omega) (hb.below hbe (Nat.le_refl _)) hn R hR)
  obtain ⟨o, e⟩ := R
  clear hb hR hM hM2
  go_enter Try.func117, Try.ntmps117
  go_upto_region 3 with (first
    | (go_at_call 130; refine (HO.out _).mono ?_; (rintro r w2 ⟨kc, rfl, hk2, hc2, hb2⟩); have hnew := RD.new w w2 kc n c M 135 A (.bool false) (.int .i64 0) hk2 hc2 hb2; have HN := Lib.hid hnew; clear hk2 hc2 hb2 hnew)
    | (go_at_call 131; refine (HRD.out _ _ _ _ HN.out.1 HN.out.2).mono ?_; (rintro r w4 ⟨hb4, rfl, h4⟩); dsimp only at h4; have HB4 := Lib.hid (HN.out.2.trans hb4); have H4 := Lib.hid h4; clear hb4 h4))
  rcases H4.out with ⟨rfl, q, v, x3, x4, hr⟩ | ⟨hne, rfl⟩
  · have k1 := hr.c1
    have HRR := Lib.hid hr
    clear hr H4
    go_wp2_with fail
    go_ret2
    exact ReadPost.of_row HB4.out HRR.out.row
  · have hez : (e == 0) = false := beq_eq_false_iff_ne.2 hne
    clear H4 hne
    go_wp2_with fail
    go_ret2
    exact ReadPost.of_bad e HB4.out
end
end Go.Proofs.Ytpomkhcobpihmaa
