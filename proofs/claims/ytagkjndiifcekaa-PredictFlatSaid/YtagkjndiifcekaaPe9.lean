/- Chapter 9, the project's own: Decode, Encode (May stands in Ps9). -/
import Derived.Test.YtagkjndiifcekaaPy9
import Derived.Test.YtagkjndiifcekaaUn9
namespace Go.Proofs.Ytagkjndiifcekaa
open Go.RowKit
set_option linter.unusedVariables false
set_option maxRecDepth 100000

set_option maxHeartbeats 2000000 in
theorem pDecode (P C K : Int) (A : Option Addr) (n c : Nat) (zs : List Int) (w : World) (hb : Byt w w.heap.size A n c zs) (hn : n ≤ 10000) (R : List Int × Int) (hR : undZ P C K zs = R) :
    Calls Try.prog 9 #[shV P C K, .slice A n c] w (RdP w R) := by
  have HB := Lib.hid (fun W (hW : Below w.heap.size w W) => (hb.below hW (Nat.le_refl _)).more hW.size)
  have HLEN := Lib.hid hb.len
  have HRG := Lib.hid hb.rng
  have HW1 := Lib.hid ((Below.refl w.heap.size w).alloc (Nat.le_refl _) (.cells #[.int .i64 P, .int .i64 C, .int .i64 K] 28))
  have HSH := Lib.hid (SpB.new w P C K)
  obtain ⟨W1, hW1⟩ : ∃ W1, w.alloc (.cells #[.int .i64 P, .int .i64 C, .int .i64 K] 28) = W1 := ⟨_, rfl⟩
  rw [hW1] at HW1 HSH
  have a0 := HSH.out.c0
  have a1 := HSH.out.c1
  have a2 := HSH.out.c2
  have HMY := Lib.hid (pMay P C K W1)
  clear hb
  rcases hmay : mayZ P C K with _ | _
  · rw [undZ, if_pos hmay] at hR
    subst hR
    rw [hmay] at HMY
    clear hmay
    go_enter Try.func9, Try.ntmps9
    go_wp2_with (go_at_call 12; refine HMY.out.mono ?_; (rintro r w2 ⟨rfl, hb2⟩); have HB2 := Lib.hid (HW1.out.trans (hb2.mono HW1.out.size)); have HS2 := Lib.hid (HSH.out.below hb2 HSH.out.lt); have b0 := HS2.out.c0; have b1 := HS2.out.c1; have b2 := HS2.out.c2; have HAP := Lib.hid ((Mine.nil w2 w.heap.size).append (HB.out w2 HB2.out) 23 (by omega) HB2.out.size); clear hb2)
    go_ret2
    exact RdP.of_bad 1 HB2.out
  · obtain ⟨hP, cc, kk, nn, rfl, rfl, hc1, hc4, hk1, hk4, hnn, hn1, hn2, hCK, hCn⟩ := may_parts hmay
    rw [undZ, if_neg (by rw [hmay]; decide), hCK, hCn] at hR
    rw [hmay] at HMY
    clear hmay hCK hCn
    by_cases hP1 : P = 1
    · subst hP1
      rw [if_pos rfl] at hR
      subst hR
      go_enter Try.func9, Try.ntmps9
      go_wp2_with (first
        | (go_at_call 12; refine HMY.out.mono ?_; (rintro r w2 ⟨rfl, hb2⟩); have HB2 := Lib.hid (HW1.out.trans (hb2.mono HW1.out.size)); have HS2 := Lib.hid (HSH.out.below hb2 HSH.out.lt); have b0 := HS2.out.c0; have b1 := HS2.out.c1; have b2 := HS2.out.c2; have HAP := Lib.hid ((Mine.nil w2 w.heap.size).append (HB.out w2 HB2.out) 23 (by omega) HB2.out.size); clear hb2)
        | (at_builtin; obtain ⟨v6, w6, hrun, hmi6, hbe6⟩ := HAP.out; refine Lib.wpList_append_run_sl _ rfl (.const (.slice none 0 0)) (.tmp 12) 23 rfl _ _ rfl rfl hrun ?_; clear hrun; have HBE6 := Lib.hid (HB2.out.trans hbe6); have HMI6 := Lib.hid hmi6; clear hbe6 hmi6))
      go_ret2
      exact RdP.of_row HBE6.out (by have h := HMI6.out; rw [Nat.zero_add, List.nil_append] at h; rw [HLEN.out]; exact h)
    · rw [if_neg hP1, HLEN.out] at hR
      have hp1 : (P == 1) = false := beq_eq_false_iff_ne.2 hP1
      have HRD := Lib.hid (fun W (hW : Byt W W.heap.size A n c zs) => pReadC P cc kk nn A n c zs W hW hn (by omega) ⟨hc1, hc4⟩ ⟨hk1, hk4⟩ hnn _ rfl R hR)
      clear hR hnn
      go_enter Try.func9, Try.ntmps9
      go_wp2_with (first
        | (go_at_call 12; refine HMY.out.mono ?_; (rintro r w2 ⟨rfl, hb2⟩); have HB2 := Lib.hid (HW1.out.trans (hb2.mono HW1.out.size)); have HS2 := Lib.hid (HSH.out.below hb2 HSH.out.lt); have b0 := HS2.out.c0; have b1 := HS2.out.c1; have b2 := HS2.out.c2; have HAP := Lib.hid ((Mine.nil w2 w.heap.size).append (HB.out w2 HB2.out) 23 (by omega) HB2.out.size); clear hb2)
        | (go_at_call 18; refine (HRD.out _ (HB.out _ HB2.out)).mono ?_; (rintro r w1 ⟨A1, c1, rfl, hy1, hb1⟩); have HY1 := Lib.hid hy1; have HB1 := Lib.hid (HB2.out.trans (hb1.mono HB2.out.size)); clear hy1 hb1))
      go_ret2
      exact ⟨_, _, rfl, HY1.out, HB1.out⟩
set_option maxHeartbeats 2000000 in
theorem pEncode (P C K : Int) (A : Option Addr) (n c : Nat) (zs : List Int) (w : World) (hb : Byt w w.heap.size A n c zs) (hn : n ≤ 10000) (R : List Int × Int) (hR : doZ P C K zs = R) :
    Calls Try.prog 10 #[shV P C K, .slice A n c] w (RdP w R) := by
  have HB := Lib.hid (fun W (hW : Below w.heap.size w W) => (hb.below hW (Nat.le_refl _)).more hW.size)
  have HLEN := Lib.hid hb.len
  have HRG := Lib.hid hb.rng
  have HW1 := Lib.hid ((Below.refl w.heap.size w).alloc (Nat.le_refl _) (.cells #[.int .i64 P, .int .i64 C, .int .i64 K] 28))
  have HSH := Lib.hid (SpB.new w P C K)
  obtain ⟨W1, hW1⟩ : ∃ W1, w.alloc (.cells #[.int .i64 P, .int .i64 C, .int .i64 K] 28) = W1 := ⟨_, rfl⟩
  rw [hW1] at HW1 HSH
  have a0 := HSH.out.c0
  have a1 := HSH.out.c1
  have a2 := HSH.out.c2
  have HMY := Lib.hid (pMay P C K W1)
  clear hb
  rcases hmay : mayZ P C K with _ | _
  · rw [doZ, if_pos hmay] at hR
    subst hR
    rw [hmay] at HMY
    clear hmay
    go_enter Try.func10, Try.ntmps10
    go_wp2_with (go_at_call 12; refine HMY.out.mono ?_; (rintro r w2 ⟨rfl, hb2⟩); have HB2 := Lib.hid (HW1.out.trans (hb2.mono HW1.out.size)); have HS2 := Lib.hid (HSH.out.below hb2 HSH.out.lt); have b0 := HS2.out.c0; have b1 := HS2.out.c1; have b2 := HS2.out.c2; have HAP := Lib.hid ((Mine.nil w2 w.heap.size).append (HB.out w2 HB2.out) 23 (by omega) HB2.out.size); clear hb2)
    go_ret2
    exact RdP.of_bad 1 HB2.out
  · obtain ⟨hP, cc, kk, nn, rfl, rfl, hc1, hc4, hk1, hk4, hnn, hn1, hn2, hCK, hCn⟩ := may_parts hmay
    rw [doZ, if_neg (by rw [hmay]; decide), hCK, hCn] at hR
    rw [hmay] at HMY
    clear hmay hCK hCn
    by_cases hP1 : P = 1
    · subst hP1
      rw [if_pos rfl] at hR
      subst hR
      go_enter Try.func10, Try.ntmps10
      go_wp2_with (first
        | (go_at_call 12; refine HMY.out.mono ?_; (rintro r w2 ⟨rfl, hb2⟩); have HB2 := Lib.hid (HW1.out.trans (hb2.mono HW1.out.size)); have HS2 := Lib.hid (HSH.out.below hb2 HSH.out.lt); have b0 := HS2.out.c0; have b1 := HS2.out.c1; have b2 := HS2.out.c2; have HAP := Lib.hid ((Mine.nil w2 w.heap.size).append (HB.out w2 HB2.out) 23 (by omega) HB2.out.size); clear hb2)
        | (at_builtin; obtain ⟨v6, w6, hrun, hmi6, hbe6⟩ := HAP.out; refine Lib.wpList_append_run_sl _ rfl (.const (.slice none 0 0)) (.tmp 12) 23 rfl _ _ rfl rfl hrun ?_; clear hrun; have HBE6 := Lib.hid (HB2.out.trans hbe6); have HMI6 := Lib.hid hmi6; clear hbe6 hmi6))
      go_ret2
      exact RdP.of_row HBE6.out (by have h := HMI6.out; rw [Nat.zero_add, List.nil_append] at h; rw [HLEN.out]; exact h)
    · rw [if_neg hP1, HLEN.out] at hR
      have hp1 : (P == 1) = false := beq_eq_false_iff_ne.2 hP1
      have HRD := Lib.hid (fun W (hW : Byt W W.heap.size A n c zs) => pWriteC P cc kk nn A n c zs W hW hn (by omega) ⟨hc1, hc4⟩ ⟨hk1, hk4⟩ hnn R hR)
      clear hR hnn
      go_enter Try.func10, Try.ntmps10
      go_wp2_with (first
        | (go_at_call 12; refine HMY.out.mono ?_; (rintro r w2 ⟨rfl, hb2⟩); have HB2 := Lib.hid (HW1.out.trans (hb2.mono HW1.out.size)); have HS2 := Lib.hid (HSH.out.below hb2 HSH.out.lt); have b0 := HS2.out.c0; have b1 := HS2.out.c1; have b2 := HS2.out.c2; have HAP := Lib.hid ((Mine.nil w2 w.heap.size).append (HB.out w2 HB2.out) 23 (by omega) HB2.out.size); clear hb2)
        | (go_at_call 19; refine (HRD.out _ (HB.out _ HB2.out)).mono ?_; (rintro r w1 ⟨A1, c1, rfl, hy1, hb1⟩); have HY1 := Lib.hid hy1; have HB1 := Lib.hid (HB2.out.trans (hb1.mono HB2.out.size)); clear hy1 hb1))
      go_ret2
      exact ⟨_, _, rfl, HY1.out, HB1.out⟩
end Go.Proofs.Ytagkjndiifcekaa
