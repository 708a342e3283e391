/- Chapter 5's reference: the row of bits (Put, Align, Bytes, turned). Chapter 5's reference: the row of bits: Bytes, turned. -/
import Derived.Test.YtginbilakdenmaaBit5
import Derived.Test.YtginbilakdenmaaRow5
import Derived.Test.YtginbilakdenmaaRef4Flow
import Derived.StillTailTactics
import Derived.Deep.DeepCutAuto
import Derived.BigRegion
namespace Go.Proofs.Ytginbilakdenmaa
open Go.RowKit
set_option linter.unusedVariables false
set_option maxRecDepth 100000

/-- One byte of a row of one's own is written. -/
theorem Mine.put {w : World} {base p : Nat} {b c : Nat} {zs : List Int} (h : Mine w base (.slice (some ⟨b, 0, none⟩) p c) p zs) (i : Nat) (z : Int) (hi : i < p) (hz : 0 ≤ z ∧ z < 256) :
    Mine (w.setCell ⟨b, i, none⟩ (.int .u8 z)) base (.slice (some ⟨b, 0, none⟩) p c) p (zs.set i z) := by
  refine ⟨⟨by simpa using h.own.1, ?_⟩, fun y hy => ?_⟩
  · rcases h.own.2 with ⟨h0, _⟩ | ⟨g, cap, cur, e, hb, hh, hnc, hmx, hsz, htk⟩
    · cases h0
    · injection e with e1 e2 e3
      injection e1 with e1
      injection e1 with e1
      subst e1 e3
      refine .inr ⟨b, c, cur.set! i (.int .u8 z), rfl, hb, ?_, hnc, hmx, by simpa using hsz, ?_⟩
      · simp [World.setCell, Array.getElem?_modify, hh]
      · rw [List.map_set, ← htk]
        simp [List.take_set]
  · rcases List.mem_or_eq_of_mem_set hy with hy | rfl
    · exact h.rng y hy
    · exact hz
theorem Mine.block0 {w : World} {base p : Nat} {v : Value} {zs : List Int} (h : Mine w base v p zs) (hp : 0 < p) : ∃ b c, v = .slice (some ⟨b, 0, none⟩) p c ∧ base ≤ b ∧ b < w.heap.size ∧ (∀ i, w.frozen? ⟨b, i, none⟩ = false) ∧ ∀ i, i < p → w.cell? ⟨b, i, none⟩ = some (.int .u8 (zs.getD i 0)) := by
  have hlt := fun b hb => h.lt b hb
  obtain ⟨A, c2, e2, hby⟩ := h.byt
  rcases h.own.2 with ⟨rfl, h0⟩ | ⟨b, cap, cur, rfl, hb, hh, hnc, _⟩
  · omega
  · refine ⟨b, cap, rfl, hb, hlt b rfl, fun i => by simp [World.frozen?, hh], fun i hi => ?_⟩
    injection e2 with e2
    subst e2
    obtain ⟨b', o, e, _, hc⟩ := hby.cell hp
    injection e with e
    injection e with e3 e4
    subst e3 e4
    have := hc i hi
    rwa [Nat.zero_add] at this

/-- The document's own row of bits in block k, its bytes in a row of its own. -/
structure RRow (w : World) (B k : Nat) (v : Value) (L : List Int) : Prop where
  fl : w.heap[k]? = some (.cells #[v, .int .i64 L.length] 35 (0, 0))
  row : Mine w B v (pack L).length (pack L)
  b01 : B01 L
  ne : v.ownBlock ≠ some k
  kB : B ≤ k
/-- What was there stays, but for the row's own blocks. -/
structure RMov (w w' : World) (k : Nat) (v v' : Value) : Prop where
  os : w'.os = w.os
  tape : w'.tape = w.tape
  output : w'.output = w.output
  size : w.heap.size ≤ w'.heap.size
  block : ∀ i, i < w.heap.size → i ≠ k → v.ownBlock ≠ some i → w'.heap[i]? = w.heap[i]?
  own : ∀ b, v'.ownBlock = some b → v.ownBlock = some b ∨ w.heap.size ≤ b
section
variable {w w' w2 : World} {B k : Nat} {v v' v2 : Value} {L : List Int}
theorem RRow.lt (h : RRow w B k v L) : k < w.heap.size := by
  rcases Nat.lt_or_ge k w.heap.size with hlt | hge
  · exact hlt
  · have := h.fl; rw [Array.getElem?_eq_none hge] at this; cases this
theorem RRow.c0 (h : RRow w B k v L) : w.cell? ⟨k, 0, none⟩ = some v := by rw [cell_of_row w k 0 _ 35 (0, 0) h.fl]; rfl
theorem RRow.c1 (h : RRow w B k v L) : w.cell? ⟨k, 1, none⟩ = some (.int .i64 L.length) := by rw [cell_of_row w k 1 _ 35 (0, 0) h.fl]; rfl
theorem RRow.fr (h : RRow w B k v L) (i : Nat) : w.frozen? ⟨k, i, none⟩ = false := by
  have := h.fl
  simp [World.frozen?, this]
theorem RRow.drewN (h : RRow w B k v L) (i : Nat) : RRow (w.drewN i) B k v L := ⟨h.fl, h.row.drewN i, h.b01, h.ne, h.kB⟩
/-- Other blocks changed. -/
theorem RRow.keep (h : RRow w B k v L) (hb : ∀ i, i < w.heap.size → i = k ∨ v.ownBlock = some i → w'.heap[i]? = w.heap[i]?) : RRow w' B k v L :=
  ⟨(hb k h.lt (.inl rfl)).trans h.fl, h.row.same fun b hv hlt => hb b hlt (.inr hv), h.b01, h.ne, h.kB⟩
theorem RMov.refl (w : World) (k : Nat) (v : Value) : RMov w w k v v := ⟨rfl, rfl, rfl, Nat.le_refl _, fun _ _ _ _ => rfl, fun _ h => .inl h⟩
theorem RMov.drewN (h : RMov w w' k v v') (n : Nat) : RMov w (w'.drewN n) k v v' := ⟨h.os, h.tape, h.output, h.size, h.block, h.own⟩
theorem RMov.trans (h : RMov w w' k v v') (j : RMov w' w2 k v' v2) : RMov w w2 k v v2 :=
  ⟨j.os.trans h.os, j.tape.trans h.tape, j.output.trans h.output, Nat.le_trans h.size j.size, fun i hi hne hv => by
    rw [j.block i (Nat.lt_of_lt_of_le hi h.size) hne (fun e => by rcases h.own i e with e | e; exact hv e; omega), h.block i hi hne hv], fun b hb => by
    rcases j.own b hb with e | e
    · exact h.own b e
    · exact .inr (Nat.le_trans h.size e)⟩
theorem RMov.below {B : Nat} (h : RMov w w' k v v') (hr : RRow w B k v L) (hB : B ≤ w.heap.size) : Below B w w' :=
  ⟨h.os, h.tape, h.output, h.size, fun i hi => h.block i (by omega) (by have := hr.kB; omega) (fun e => by
    rcases hr.row.own.2 with ⟨rfl, _⟩ | ⟨b, cap, cur, rfl, hb, _⟩
    · cases e
    · injection e with e
      dsimp only at e
      omega)⟩
end
theorem and_one (z : Int) (h0 : -9223372036854775808 ≤ z) (h1 : z ≤ 9223372036854775807) : bits .and .i64 z 1 = z % 2 := by
  show IntKind.i64.wrap ((BitVec.ofInt 64 z &&& BitVec.ofInt 64 1).toNat : Int) = _
  have e : (BitVec.ofInt 64 z &&& BitVec.ofInt 64 1).toNat = (z % 2).toNat := by
    rw [BitVec.toNat_and, show (BitVec.ofInt 64 1).toNat = 1 by decide, BitVec.toNat_ofInt, Nat.and_one_is_mod]
    omega
  rw [e, IntWalk.i64_in _ (by omega)]
  omega
theorem or_bit8 (z x : Int) (r : Nat) (hr : r < 8) (z0 : 0 ≤ z) (z1 : z < 2 ^ r) (x0 : x = 0 ∨ x = 1) : bits .or .u8 z (x * 2 ^ r) = z + x * 2 ^ r := by
  have e : ∀ a : Fin 256, ∀ r : Fin 8, a.val < 2 ^ r.val → bits .or .u8 (a.val : Int) (0 * 2 ^ r.val) = (a.val : Int) + 0 * 2 ^ r.val ∧ bits .or .u8 (a.val : Int) (1 * 2 ^ r.val) = (a.val : Int) + 1 * 2 ^ r.val := by decide +kernel
  have h8 : (2 : Int) ^ r ≤ 128 := by
    have : ∀ r : Fin 8, (2 : Int) ^ r.val ≤ 128 := by decide
    exact this ⟨r, hr⟩
  obtain ⟨a, rfl⟩ : ∃ a : Nat, z = a := ⟨z.toNat, by omega⟩
  have h2 : a < 2 ^ r := by exact_mod_cast z1
  have h3 : a < 256 := by omega
  have h := e ⟨a, h3⟩ ⟨r, hr⟩ h2
  rcases x0 with rfl | rfl
  · exact h.1
  · exact h.2
def putB (L : List Int) (n width : Int) : List Int := if 1 ≤ width ∧ width ≤ 16 then L ++ lowb n width.toNat else L
theorem putB_01 {L : List Int} (h : B01 L) (n width : Int) : B01 (putB L n width) := by
  unfold putB
  split
  · exact h.app (lowb_01 _ _)
  · exact h
theorem putB_in (L : List Int) (n : Int) (k : Nat) (h : k ≤ 16) : putB L n k = L ++ lowb n k := by
  unfold putB
  by_cases h1 : 1 ≤ k
  · rw [if_pos (by omega)]; rfl
  · obtain rfl : k = 0 := by omega
    rw [if_neg (by omega)]; simp [lowb]
/-- The place of the next bit's byte is written. -/
theorem RRow.wrote {w : World} {B k : Nat} {b c N : Nat} {L : List Int} (h01 : B01 L) (hN : L.length = N)
    (hrow : Mine w B (.slice (some ⟨b, 0, none⟩) (N / 8 + 1) c) (N / 8 + 1) (pack L ++ (if N % 8 = 0 then [0] else []))) (hfl : w.heap[k]? = some (.cells #[.slice (some ⟨b, 0, none⟩) (N / 8 + 1) c, .int .i64 N] 35 (0, 0)))
    (hne : b ≠ k) (hkB : B ≤ k) (x : Int) (hx : x = 0 ∨ x = 1) (z y : Int) (hz : z = byteB L (N / 8) + x * 2 ^ (N % 8)) (hy : y = N + 1) :
    RRow ((w.setCell ⟨b, N / 8, none⟩ (.int .u8 z)).setCell ⟨k, 1, none⟩ (.int .i64 y)) B k (.slice (some ⟨b, 0, none⟩) (N / 8 + 1) c) (L ++ [x]) := by
  have h01' := h01.app (B01.one hx)
  have hp := pack_snoc L h01 x hx
  rw [hN, ← hz] at hp
  have hl : (pack (L ++ [x])).length = N / 8 + 1 := by rw [pack_len, List.length_append, hN]; simp; omega
  have hzr : 0 ≤ z ∧ z < 256 := by
    have hl2 : N / 8 < (pack L ++ (if N % 8 = 0 then [0] else [])).length := by
      rw [List.length_append, pack_len, hN]; split <;> simp <;> omega
    refine pack_rng _ h01' z ?_
    rw [hp]
    exact List.mem_set hl2 z
  refine ⟨?_, ?_, h01', by simp [Value.ownBlock]; exact hne, hkB⟩
  · subst hy
    have h1 : (w.setCell ⟨b, N / 8, none⟩ (.int .u8 z)).heap[k]? = _ := (Below.heap_setCell w ⟨b, N / 8, none⟩ _ k (fun e => hne e.symm)).trans hfl
    simp [World.setCell, Array.getElem?_modify] at h1 ⊢
    simp [h1, hN]
  · rw [hl, hp]
    have h1 := hrow.put (N / 8) z (by omega) hzr
    refine h1.same fun i hi _ => Below.heap_setCell _ ⟨k, 1, none⟩ _ i (fun e => ?_)
    simp [Value.ownBlock] at hi
    exact hne (hi.trans e)
theorem ediv_i64 (n : Int) (j : Nat) (h0 : -9223372036854775808 ≤ n) (h1 : n ≤ 9223372036854775807) : -9223372036854775808 ≤ n / 2 ^ j ∧ n / 2 ^ j ≤ 9223372036854775807 := by
  have h2 := pow2_pos j
  rcases Int.lt_or_le n 0 with h | h
  · have h3 : n / 2 ^ j < 0 := Int.ediv_neg_of_neg_of_pos h h2
    have h4 : n ≤ n / 2 ^ j := by
      rw [Int.le_ediv_iff_mul_le h2]
      have : n * 2 ^ j ≤ n * 1 := Int.mul_le_mul_of_nonpos_left (by omega) (by omega)
      omega
    omega
  · have h3 := Int.ediv_nonneg h (Int.le_of_lt h2)
    have h4 := Int.ediv_le_self (2 ^ j) h
    omega
set_option maxHeartbeats 4000000 in
theorem rputC (B k : Nat) (v : Value) (L : List Int) (n width : Int) (w : World) (h : RRow w B k v L) (hB : B ≤ w.heap.size) (hL : L.length ≤ 800000000) (n0 : -9223372036854775808 ≤ n) (n1 : n ≤ 9223372036854775807) :
    Calls Try.prog 17 #[.pointer (some ⟨k, 0, none⟩), .int .i64 n, .int .i64 width] w fun r w' => r = .returned (.tuple #[]) ∧ ∃ v', RRow w' B k v' (putB L n width) ∧ RMov w w' k v v' := by
  have H := Lib.hid h
  have HBW := Lib.hid hB
  clear h hB
  unfold putB
  by_cases h1 : 1 ≤ width
  · by_cases h16 : width ≤ 16
    · rw [if_pos ⟨h1, h16⟩]
      obtain ⟨W, hW⟩ : ∃ W : Nat, width = W := ⟨width.toNat, by omega⟩
      subst hW
      have hW1 : 1 ≤ W := by omega
      have hW16 : W ≤ 16 := by omega
      have g1 : ¬ (W : Int) < 1 := by omega
      have g2 : ¬ (16 : Int) < W := by omega
      clear h1 h16
      go_enter Try.func17, Try.ntmps17
      go_wp2_with fail
      go_loopw [6] (fun iv wr => ∃ (j : Nat) (u : Value), j ≤ W ∧ iv = .int .i64 j ∧ Hid (RRow wr B k u (L ++ lowb n j)) ∧ Hid (RMov w wr k v u)) (fun iv _ => W - (intOf iv).toNat)
      case atStart => exact ⟨0, v, Nat.zero_le _, rfl, Lib.hid (by rw [lowb, List.append_nil]; exact H.out), Lib.hid (RMov.refl _ _ _)⟩
      case round =>
        obtain ⟨j, u, hj, rfl, HR, HM⟩ := hrel
        by_cases hlt : j < W
        · have hb01 := HR.out.b01
          have hlen : (L ++ lowb n j).length = L.length + j := by rw [List.length_append, lowb_len]
          have HLB : Hid (L ++ lowb n (j + 1) = (L ++ lowb n j) ++ [n / 2 ^ j % 2]) := Lib.hid (by rw [lowb, List.append_assoc])
          have hq := ediv_i64 n j n0 n1
          have e3 := and_one (n / 2 ^ j) hq.1 hq.2
          obtain ⟨M, hM⟩ : ∃ M, L ++ lowb n j = M := ⟨_, rfl⟩
          rw [hM] at HR hb01 hlen HLB
          obtain ⟨x, hx⟩ : ∃ x, n / 2 ^ j % 2 = x := ⟨_, rfl⟩
          have hx01 : x = 0 ∨ x = 1 := by omega
          rw [hx] at e3 HLB
          obtain ⟨N, hN⟩ : ∃ N, M.length = N := ⟨_, rfl⟩
          have hNb : N ≤ 800000016 := by omega
          obtain ⟨Q, hQ⟩ : ∃ Q, N / 8 = Q := ⟨_, rfl⟩
          obtain ⟨R, hR⟩ : ∃ R, N % 8 = R := ⟨_, rfl⟩
          have hR8 : R < 8 := by omega
          have hzb := byteB_bd M hb01 Q
          have hzl : byteB M Q < 2 ^ R := by
            unfold byteB
            rw [List.take_of_length_le (show (M.drop (8 * Q)).length ≤ 8 by rw [List.length_drop]; omega)]
            have h2 := valZ_bd (M.drop (8 * Q)) (hb01.drop _)
            rw [List.length_drop, show M.length - 8 * Q = R by omega] at h2
            exact h2.2
          have hor := or_bit8 (byteB M Q) x R hR8 hzb.1 hzl hx01
          have HZ : Hid (byteB M (N / 8) + x * 2 ^ (N % 8) = byteB M Q + x * 2 ^ R) := Lib.hid (by rw [hQ, hR])
          have hxs : IntKind.u8.wrap (x * 2 ^ R) = x * 2 ^ R := by
            have e : ∀ r : Fin 8, (2 : Int) ^ r.val ≤ 128 ∧ 0 < (2 : Int) ^ r.val := by decide
            have := e ⟨R, hR8⟩
            dsimp only at this
            rw [IntKind.wrap_u8]
            rcases hx01 with h | h <;> rw [h] <;> omega
          have hxw : IntKind.u8.wrap x = x := by rw [IntKind.wrap_u8]; omega
          obtain ⟨Z, hZ⟩ : ∃ Z, byteB M Q + x * 2 ^ R = Z := ⟨_, rfl⟩
          rw [hZ] at hor HZ
          obtain ⟨z, hz⟩ : ∃ z, byteB M Q = z := ⟨_, rfl⟩
          rw [hz] at hor hzb
          have d1 : (N : Int) / 8 = Q := by omega
          have d2 : (N : Int) % 8 = R := by omega
          have HZE : Hid (bits .or .u8 z (bits .and .i64 (n / 2 ^ min j 64) 1 % 256 * 2 ^ min (N % 8) 8 % 256) = Z) := Lib.hid (by
            rw [show min j 64 = j by omega, show min (N % 8) 8 = R by omega, e3, show x % 256 = x by omega]
            rw [IntKind.wrap_u8] at hxs
            rw [hxs, hor])
          have HX := Lib.hid hx01
          have HN := Lib.hid hN
          have HQ := Lib.hid hQ
          have HRR := Lib.hid hR
          have HB01 := Lib.hid hb01
          have HZB := Lib.hid hz
          have hRi : (R : Int) < 8 := by omega
          clear hM hx hx01 hN hQ hR hb01 hz hZ hzl hlen hR8 hq
          have k0 := HR.out.c0
          have k1 := HR.out.c1
          rw [HN.out] at k1
          by_cases h8 : R = 0
          · have hpl : (pack M).length = Q := by rw [pack_len, HN.out]; have := HQ.out; have := HRR.out; omega
            have hz0 : z = 0 := by
              rw [← HZB.out]
              exact byteB_out M Q (by have h1 := HN.out; have h2 := HQ.out; have h3 := HRR.out; omega)
            have hrow := HR.out.row
            rw [hpl] at hrow
            have HAP := Lib.hid ((hrow.kept ((Below.refl _ _).alloc (Nat.le_refl _) (.cells #[.int .u8 0] 5))).appendT (byt_lit0 wr 0 (by omega)) 29 (by omega) (Nat.le_trans HBW.out (Nat.le_trans HM.out.size (by simp))))
            have t8 : ((R : Int) == 0) = true := beq_iff_eq.2 (by omega)
            have kk0 := HR.out.fr 0
            have kk1 := HR.out.fr 1
            have hku : k < wr.heap.size := HR.out.lt
            obtain ⟨A0, c0, hu, _⟩ := hrow.byt
            subst hu
            obtain ⟨v6, w6, hrun, hm6, hb6, ho6, hs6, hw6⟩ := HAP.out
            obtain ⟨b, c, rfl, hBb, hbl, hbf, hbc⟩ := hm6.block0 (by omega)
            have hk6 : w6.heap[k]? = wr.heap[k]? := (ho6 k (by simp; omega) HR.out.ne).trans (((Below.refl wr.heap.size wr).alloc (Nat.le_refl _) _).block k hku)
            have hbk : b ≠ k := fun e => by
              rcases hw6 b rfl with h | h
              · exact HR.out.ne (by rw [h, e])
              · simp at h; omega
            have kf0 : w6.frozen? ⟨k, 0, none⟩ = false := (World.frozen?_of_block hk6).trans kk0
            have kc0 : w6.cell? ⟨k, 0, none⟩ = _ := (World.cell?_of_block hk6).trans k0
            obtain ⟨W7, hW7⟩ : ∃ W7, w6.setCell ⟨k, 0, none⟩ (.slice (some ⟨b, 0, none⟩) (Q + 1) c) = W7 := ⟨_, rfl⟩
            have hfl7 : W7.heap[k]? = some (.cells #[.slice (some ⟨b, 0, none⟩) (Q + 1) c, .int .i64 N] 35 (0, 0)) := by
              have h1 := hk6.trans HR.out.fl
              rw [← hW7]
              simp [World.setCell, Array.getElem?_modify, h1, HN.out]
            have hm7 : Mine W7 B (.slice (some ⟨b, 0, none⟩) (Q + 1) c) (Q + 1) (pack M ++ [0]) := by
              rw [← hW7]
              refine hm6.same fun i hi _ => Below.heap_setCell _ ⟨k, 0, none⟩ _ i (fun e => ?_)
              simp [Value.ownBlock] at hi
              exact hbk (hi.trans e)
            obtain ⟨b', c', e', hBb', hbl', hbf', hbc'⟩ := hm7.block0 (by omega)
            injection e' with e1 e2 e3
            injection e1 with e1
            injection e1 with e1
            subst e1 e3
            have m0 : W7.cell? ⟨k, 0, none⟩ = some (.slice (some ⟨b, 0, none⟩) (Q + 1) c) := by rw [cell_of_row W7 k 0 _ _ _ hfl7]; rfl
            have m1 : W7.cell? ⟨k, 1, none⟩ = some (.int .i64 N) := by rw [cell_of_row W7 k 1 _ _ _ hfl7]; rfl
            have mf : W7.frozen? ⟨k, 1, none⟩ = false := by simp [World.frozen?, hfl7]
            have mb := hbc' Q (by omega)
            have mbf := hbf' Q
            have hzq : (pack M ++ [0]).getD Q 0 = z := by simp [List.getD, hpl, hz0]
            rw [hzq] at mb
            have HOUT : Hid (∀ W y U, W = W7.drewN 1 → y = (N : Int) + 1 → U = Z → RRow ((W.setCell ⟨b, Q, none⟩ (.int .u8 U)).setCell ⟨k, 1, none⟩ (.int .i64 y)) B k (.slice (some ⟨b, 0, none⟩) (Q + 1) c) (M ++ [x]) ∧ RMov wr ((W.setCell ⟨b, Q, none⟩ (.int .u8 U)).setCell ⟨k, 1, none⟩ (.int .i64 y)) k (.slice A0 Q c0) (.slice (some ⟨b, 0, none⟩) (Q + 1) c)) := Lib.hid (by
              intro W y U hW hy hU
              subst hW hU
              have hw := RRow.wrote (w := W7.drewN 1) (b := b) (c := c) HB01.out HN.out (by rw [HRR.out, if_pos (by simpa using t8), HQ.out]; exact hm7.drewN 1) (by rw [HQ.out]; exact hfl7) hbk HR.out.kB x HX.out U y HZ.out.symm hy
              rw [HQ.out] at hw
              refine ⟨hw, ⟨?_, ?_, ?_, ?_, ?_, ?_⟩⟩
              · rw [← hW7]; exact hb6.os
              · rw [← hW7]; exact hb6.tape
              · rw [← hW7]; exact hb6.output
              · rw [← hW7]; simp [World.setCell] at hs6 ⊢; omega
              · intro i hi hne hv
                have hib : i ≠ b := fun e => by
                  rcases hw6 b rfl with h | h
                  · exact hv (by rw [h, e])
                  · simp at h; omega
                rw [Below.heap_setCell _ ⟨k, 1, none⟩ _ i hne, Below.heap_setCell _ ⟨b, Q, none⟩ _ i hib, ← hW7]
                refine (Below.heap_setCell w6 ⟨k, 0, none⟩ _ i hne).trans ?_
                exact (ho6 i (by simp; omega) hv).trans (((Below.refl wr.heap.size wr).alloc (Nat.le_refl _) _).block i hi)
              · intro b' hb'
                rcases hw6 b' hb' with h | h
                · exact .inl h
                · simp at h; exact .inr (by omega))
            obtain ⟨Q1, hQ1⟩ : ∃ Q1, Q + 1 = Q1 := ⟨_, rfl⟩
            rw [hQ1] at m0 HOUT hW7 hrun
            have hQQ : (Q : Int) < Q1 := by omega
            have wQ : IntKind.i64.wrap (Q : Int) = Q := IntWalk.i64_in _ (by have := HQ.out; omega)
            have wR : IntKind.i64.wrap (R : Int) = R := IntWalk.i64_in _ (by have := HQ.out; omega)
            have HBK := Lib.hid hbk
            have HRUN := Lib.hid hrun
            clear h8 hpl hz0 hrow HAP hrun hm6 hb6 ho6 hs6 hw6 hBb hbl hbf hbc hk6 hbk hm7 hfl7 hBb' hbl' hbf' hbc' hzq e2 hQ1
            have h30 : IntKind.i64.wrap (R : Int) = R := wR
            go_upto_region 5 with fail
            go_wp2_with (at_builtin; refine Lib.wpList_append_run_sl _ rfl (.tmp 28) (.tmp 29) 29 rfl _ _ rfl rfl HRUN.out ?_)
            go_still_tail 35, (by kernel_rfl)
            have hbk1 : ¬ b = k := HBK.out
            have hbk2 : ¬ k = b := fun e => HBK.out e.symm
            change wpList _ _ _ _ _ (W7.drewN 1)
            go_wp2_with fail
            go_roundw
            case rel => exact ⟨j + 1, _, by omega, by go_num, Lib.hid (by rw [HLB.out]; exact (HOUT.out _ _ _ rfl rfl HZE.out).1), Lib.hid (HM.out.trans (HOUT.out _ _ _ rfl rfl HZE.out).2)⟩
            case measure => simp [intOf]; omega
          · obtain ⟨b, c, rfl, hBb, hbl, hbf, hbc⟩ := HR.out.row.block0 (by rw [pack_len, HN.out]; have := HQ.out; have := HRR.out; omega)
            have hpl : (pack M).length = Q + 1 := by rw [pack_len, HN.out]; have := HQ.out; have := HRR.out; omega
            rw [hpl] at k0
            have kb := hbc Q (by omega)
            rw [pack_getD, HZB.out] at kb
            have kf := hbf Q
            have kk := HR.out.fr 1
            have t8 : ((R : Int) == 0) = false := beq_eq_false_iff_ne.2 (by omega)
            have HOUT : Hid (∀ W y U, W = wr.drewN 1 → y = (N : Int) + 1 → U = Z → RRow ((W.setCell ⟨b, Q, none⟩ (.int .u8 U)).setCell ⟨k, 1, none⟩ (.int .i64 y)) B k (.slice (some ⟨b, 0, none⟩) (Q + 1) c) (M ++ [x]) ∧ RMov wr ((W.setCell ⟨b, Q, none⟩ (.int .u8 U)).setCell ⟨k, 1, none⟩ (.int .i64 y)) k (.slice (some ⟨b, 0, none⟩) (pack M).length c) (.slice (some ⟨b, 0, none⟩) (Q + 1) c)) := Lib.hid (by
              intro W y U hW hy hU
              subst hW hU
              have hr := HR.out.drewN 1
              have hw := RRow.wrote (w := wr.drewN 1) (b := b) (c := c) HB01.out HN.out (by rw [HRR.out, if_neg h8, List.append_nil, HQ.out, ← hpl]; exact hr.row) (by rw [HQ.out, ← hpl, ← HN.out]; exact hr.fl) (fun e => hr.ne (by rw [e]; rfl)) hr.kB x HX.out U y HZ.out.symm hy
              rw [HQ.out] at hw
              refine ⟨hw, ⟨rfl, rfl, rfl, ?_, ?_, ?_⟩⟩
              · simp [World.setCell]
              · intro i hi hne hv
                rw [Below.heap_setCell _ ⟨k, 1, none⟩ _ i hne, Below.heap_setCell _ ⟨b, Q, none⟩ _ i (fun e => hv (by rw [e]; rfl))]
                rfl
              · intro b' hb'; exact .inl hb')
            obtain ⟨Q1, hQ1⟩ : ∃ Q1, Q + 1 = Q1 := ⟨_, rfl⟩
            rw [hQ1] at k0 HOUT
            have hQQ : (Q : Int) < Q1 := by omega
            have wQ : IntKind.i64.wrap (Q : Int) = Q := IntWalk.i64_in _ (by have := HQ.out; omega)
            have wR : IntKind.i64.wrap (R : Int) = R := IntWalk.i64_in _ (by have := HQ.out; omega)
            have hbk : b ≠ k := fun e => HR.out.ne (by rw [e]; rfl)
            have HBK := Lib.hid hbk
            have HPL := Lib.hid hpl
            clear hbc hBb hbf hQ1 hpl hbk h8
            go_upto_region 6 with fail
            go_still_tail 35, (by kernel_rfl)
            have hbk1 : ¬ b = k := HBK.out
            have hbk2 : ¬ k = b := fun e => HBK.out e.symm
            change wpList _ _ _ _ _ (wr.drewN 1)
            go_wp2_with fail
            go_roundw
            case rel => exact ⟨j + 1, _, by omega, by go_num, Lib.hid (by rw [HLB.out]; exact (HOUT.out _ _ _ rfl rfl HZE.out).1), Lib.hid (HM.out.trans (HOUT.out _ _ _ rfl rfl HZE.out).2)⟩
            case measure => simp [intOf]; omega
        · obtain rfl : j = W := by omega
          go_wp2_with fail
          (try simp only [Exit.inBlock, Exit.then])
          refine ⟨rfl, _, results_none rfl _ _ _, ?_⟩
          exact ⟨rfl, u, HR.out, HM.out⟩
    · rw [if_neg (fun hh => h16 hh.2)]
      go_enter Try.func17, Try.ntmps17
      go_wp2_with fail
      (try simp only [Exit.inBlock, Exit.then])
      refine ⟨rfl, _, results_none rfl _ _ _, ?_⟩
      exact ⟨rfl, v, H.out, RMov.refl _ _ _⟩
  · rw [if_neg (fun hh => h1 hh.1)]
    go_enter Try.func17, Try.ntmps17
    go_wp2_with fail
    (try simp only [Exit.inBlock, Exit.then])
    refine ⟨rfl, _, results_none rfl _ _ _, ?_⟩
    exact ⟨rfl, v, H.out, RMov.refl _ _ _⟩
/-- The row's bytes alone are read. -/
theorem RRow.set1 {w : World} {B k : Nat} {v : Value} {L M : List Int} (h : RRow w B k v L) (hM : pack M = pack L) (h01 : B01 M) (z : Int) (hz : z = M.length) :
    RRow (w.setCell ⟨k, 1, none⟩ (.int .i64 z)) B k v M ∧ RMov w (w.setCell ⟨k, 1, none⟩ (.int .i64 z)) k v v := by
  subst hz
  refine ⟨⟨?_, ?_, h01, h.ne, h.kB⟩, ⟨rfl, rfl, rfl, by simp [World.setCell], fun i hi hne _ => Below.heap_setCell _ ⟨k, 1, none⟩ _ i hne, fun b hb => .inl hb⟩⟩
  · have := h.fl
    simp [World.setCell, Array.getElem?_modify, this]
  · rw [hM]
    exact h.row.same fun i hi _ => Below.heap_setCell _ ⟨k, 1, none⟩ _ i (fun e => h.ne (by rw [hi, e]))
theorem rbytesC (B k : Nat) (v : Value) (L : List Int) (w : World) (h : RRow w B k v L) (hL : L.length ≤ 790000000) :
    Calls Try.prog 19 #[.pointer (some ⟨k, 0, none⟩)] w fun r w' => ∃ v', r = .returned v' ∧ Mine w' w.heap.size v' (pack L).length (pack L) ∧ Below w.heap.size w w' := by
  have k0 := h.c0
  obtain ⟨A, c, rfl, hby⟩ := h.row.byt
  have HC := Lib.hid (refCopy A (pack L).length c (pack L) w hby (by rw [pack_len]; omega))
  obtain ⟨P, hP⟩ : ∃ P, (pack L).length = P := ⟨_, rfl⟩
  rw [hP] at k0 HC ⊢
  clear h hby hP
  go_enter Try.func19, Try.ntmps19
  go_wp2_with (go_at_call 34; refine HC.out.mono ?_; rintro r w1 ⟨v1, rfl, hm1, hb1⟩; have HM1 := Lib.hid hm1; have HB1 := Lib.hid hb1; clear hm1 hb1)
  go_ret
  exact ⟨_, rfl, HM1.out, HB1.out⟩
theorem lowb_bit (x : Int) (h : x = 0 ∨ x = 1) : lowb x 1 = [x] := by rcases h with rfl | rfl <;> rfl
set_option maxHeartbeats 4000000 in
theorem rturnedC (B k : Nat) (v : Value) (L : List Int) (c W : Nat) (w : World) (h : RRow w B k v L) (hB : B ≤ w.heap.size) (hL : L.length ≤ 790000000) (hW : W ≤ 16) (hc : c ≤ 65535) :
    Calls Try.prog 38 #[.pointer (some ⟨k, 0, none⟩), .int .i64 c, .int .i64 W] w fun r w' => r = .returned (.tuple #[]) ∧ ∃ v', RRow w' B k v' (L ++ highb c W) ∧ RMov w w' k v v' := by
  have H := Lib.hid h
  have HBW := Lib.hid hB
  clear h hB
  go_enter Try.func38, Try.ntmps38
  go_wp2_with fail
  go_loopw [6] (fun iv wr => ∃ (i : Nat) (u : Value) (M : List Int), i ≤ W ∧ iv = .int .i64 ((i : Int) - 1) ∧ Hid (M ++ highb c i = L ++ highb c W) ∧ Hid (RRow wr B k u M) ∧ Hid (RMov w wr k v u)) (fun iv _ => (intOf iv + 1).toNat)
  case atStart => exact ⟨W, v, L, Nat.le_refl _, rfl, Lib.hid rfl, H, Lib.hid (RMov.refl _ _ _)⟩
  case round =>
    obtain ⟨i, u, M, hi, rfl, HE, HR, HM⟩ := hrel
    by_cases hlt : 1 ≤ i
    · obtain ⟨j, rfl⟩ : ∃ j, i = j + 1 := ⟨i - 1, by omega⟩
      have ej : ((j + 1 : Nat) : Int) - 1 = j := by omega
      rw [ej]
      have hML : M.length ≤ 790000016 := by
        have := congrArg List.length HE.out
        simp only [List.length_append, highb_len] at this
        omega
      have hq := ediv_i64 (c : Int) j (by omega) (by omega)
      have e3 := and_one ((c : Int) / 2 ^ j) hq.1 hq.2
      obtain ⟨x, hx⟩ : ∃ x, (c : Int) / 2 ^ j % 2 = x := ⟨_, rfl⟩
      have hx01 : x = 0 ∨ x = 1 := by omega
      have hs := HE.out
      rw [highb_succ, hx] at hs
      rw [hx] at e3
      have HS : Hid ((M ++ lowb x 1) ++ highb c j = L ++ highb c W) := Lib.hid (by rw [lowb_bit x hx01, ← hs]; simp)
      have hput := rputC B k u M x 1 wr HR.out (Nat.le_trans HBW.out HM.out.size) (by omega) (by omega) (by omega)
      rw [show (1 : Int) = ((1 : Nat) : Int) from rfl, putB_in M x 1 (by omega)] at hput
      have HP := Lib.hid hput
      have hj16 : (j : Int) < 16 := by omega
      have hj64 : min j 64 = j := by omega
      clear hx hx01 hs hput hq ej
      go_wp2_with (go_at_call 17; refine HP.out.mono ?_; rintro r w2 ⟨rfl, u2, hr2, hm2⟩; have HR2 := Lib.hid hr2; have HM2 := Lib.hid (HM.out.trans hm2); clear hr2 hm2)
      go_roundw
      case rel => exact ⟨j, u2, _, by omega, by go_num, HS, HR2, HM2⟩
      case measure => simp [intOf]
    · obtain rfl : i = 0 := by omega
      have he := HE.out
      rw [show highb (c : Int) 0 = [] from rfl, List.append_nil] at he
      have hr := HR.out
      rw [he] at hr
      have HR2 := Lib.hid hr
      clear he hr
      go_wp2_with fail
      (try simp only [Exit.inBlock, Exit.then])
      refine ⟨rfl, _, results_none rfl _ _ _, ?_⟩
      exact ⟨rfl, u, HR2.out, HM.out⟩
end Go.Proofs.Ytginbilakdenmaa
