/- Chapter 9, the document's own Undo. -/
import Derived.Test.YtagkjndiifcekaaDo9
namespace Go.Proofs.Ytagkjndiifcekaa
open Go.RowKit
set_option linter.unusedVariables false
set_option maxRecDepth 100000

/-- An append to a row of one's own: the row as it was is still one's own. -/
theorem Mine.appendO {w : World} {base p : Nat} {v : Value} {zs : List Int} (h : Mine w base v p zs) {B m c : Nat} {a : Addr} {ys : List Int} (hy : Byt w B (some a) m c ys) (hm0 : 0 < m) (ty : TypeId) (hb : p + m ≤ 140737488355328) (hbase : base ≤ w.heap.size) :
    ∃ v' w', (Builtin.append_ #[23, 23] ty #[v, .slice (some a) m c]).run Try.prog w = .ok v' w' ∧ Mine w' base v' (p + m) (zs ++ ys) ∧ Mine w' base v p zs ∧ Below base w w' := by
  obtain ⟨i0, hi, hz0, hz1, hz2⟩ := info_parts info5
  obtain ⟨v', w', hr, hM, hK⟩ := h.appendX hy ty hb hbase
  refine ⟨v', w', hr, hM, ?_, hK.below hbase h.owned⟩
  have hcell : ∀ j u, (ys.map (Value.int .u8))[j]? = some u → w.cell? (a.add j) = some u := by
    intro j u hj
    have hjl : j < ys.length := by have := (List.getElem?_eq_some_iff.1 hj).1; simpa using this
    have hyl := hy.len
    obtain ⟨b, o, e, _, hc⟩ := hy.cell (by omega)
    injection e with e
    subst e
    have e2 : (⟨b, o, none⟩ : Addr).add j = ⟨b, o + j, none⟩ := by unfold Addr.add; split <;> simp_all
    rw [e2, hc j (by omega), ← hj]
    simp [List.getD, hjl]
  rcases h.own.2 with ⟨rfl, h0⟩ | ⟨g, cap, cur, rfl, hbg, hg, hnc, hcm, hcs, htake⟩
  · subst h0
    have : zs = [] := List.eq_nil_of_length_eq_zero h.len
    subst this
    exact Mine.nil _ _
  · rcases Nat.lt_or_ge cap (p + m) with hgrow | hroom
    · have holds : ∀ j u, (zs.map (Value.int .u8))[j]? = some u → w.cell? ((⟨g, 0, none⟩ : Addr).add j) = some u := h.own.cells (g := g) rfl
      have hr2 := run_append_grow (P := Try.prog) w 23 ty 5 i0 _ Try.underlying23 hi hz0 ⟨g, 0, none⟩ p cap (zs.map (Value.int .u8)) (by rw [hz1]; exact h.own.1) holds a m c (ys.map (Value.int .u8)) (by simp [hy.len, hz1]) hcell (by omega) (by omega) (growslice_fits (by omega) (by rw [hz2]; omega))
      rw [hr] at hr2
      injection hr2 with e1 e2
      subst e2
      refine h.same8 fun b hb _ => ?_
      injection hb with hb
      dsimp only at hb
      subst hb
      exact heap_alloc_old w.drew _ (h.lt g rfl)
    · have hr2 := run_append_room (P := Try.prog) w 23 ty 5 i0 Try.underlying23 hi g p cap cur hg a m c (ys.map (Value.int .u8)) (by simp [hy.len, hz1]) hcell (fun u hu => by obtain ⟨x, _, rfl⟩ := List.mem_map.1 hu; rfl) hroom (by rw [hcs, hz1, List.length_map, hy.len]; omega)
      rw [hr] at hr2
      injection hr2 with e1 e2
      subst e1
      rcases hM.own.2 with ⟨e, _⟩ | ⟨g', cap', cur', e, hbg', hg', hnc', hcm', hcs', htake'⟩
      · cases e
      · injection e with e1 e2 e3
        injection e1 with e1
        injection e1 with e1
        subst e1 e3
        refine ⟨⟨by have := h.len; simp [this], .inr ⟨g, cap, cur', rfl, hbg', hg', hnc, hcm', hcs', ?_⟩⟩, h.rng⟩
        have h1 := congrArg (List.take (p * 1)) htake'
        rw [List.take_take, Nat.min_eq_left (by omega)] at h1
        rw [h1, List.map_append, List.take_left' (by simp [h.len])]
theorem Mine.drewO {w : World} {base p : Nat} {v : Value} {zs : List Int} (h : Mine w base v p zs) (z : Int) (hz : 0 ≤ z ∧ z < 256) (hb : base ≤ w.heap.size) (hp : p ≤ 100000000) :
    ∃ A' c' w', (Builtin.append_ #[23, 23] 23 #[v, .slice (some ⟨w.heap.size, 0, none⟩) 1 1]).run Try.prog (w.alloc (.cells #[.int .u8 z] 5)).drew = .ok (.slice A' (p + 1) c') w' ∧ Byt w' w'.heap.size A' (p + 1) c' (zs ++ [z]) ∧ Mine w' base v p zs ∧ Below base w w' := by
  have hb1 : Below w.heap.size w (w.alloc (.cells #[.int .u8 z] 5)).drew := show Below w.heap.size w ((w.alloc (.cells #[.int .u8 z] 5)).drewN 1) from below_drewN ((Below.refl _ _).alloc (Nat.le_refl _) _) 1
  have hm1 := h.kept hb1
  have hy : Byt (w.alloc (.cells #[.int .u8 z] 5)).drew (w.heap.size + 1) (some ⟨w.heap.size, 0, none⟩) 1 1 [z] := show Byt ((w.alloc (.cells #[.int .u8 z] 5)).drewN 1) _ _ _ _ _ from (byt_lit0 w z hz).drewN 1
  obtain ⟨v', w', hr, hm, ho, hk⟩ := hm1.appendO hy (by omega) 23 (by omega) (Nat.le_trans hb hb1.size)
  obtain ⟨A', c', rfl, hby⟩ := hm.byt
  exact ⟨A', c', w', hr, hby, ho, (hb1.mono hb).trans hk⟩
theorem gsZ_zero (t : Int) (c n : Nat) (O : List Int) (z : Int) (hc : 0 < c) (hn : 0 < n) : gsZ t c n (O ++ [z]) O.length = gsZ t c n O O.length := by
  rw [← gsZ_take t c n (O ++ [z]) O.length hc hn, List.take_left]
theorem dvd_step (N a b : Nat) (h1 : N ∣ a) (h2 : N ∣ b) (h : a < b) : a + N ≤ b := by
  obtain ⟨x, rfl⟩ := h1
  obtain ⟨y, rfl⟩ := h2
  have hxy : x < y := by
    rcases Nat.lt_or_ge x y with h3 | h3
    · exact h3
    · exact absurd (Nat.mul_le_mul_left N h3) (by omega)
  calc N * x + N = N * (x + 1) := (Nat.mul_succ N x).symm
    _ ≤ N * y := Nat.mul_le_mul_left N hxy
theorem rowU_step (t : Int) (c n : Nat) (zs O : List Int) (a k nn : Nat) (ha : a < zs.length) (hk : k < nn) : rowU t c n ((zs.drop a).take (nn - k)) O = rowU t c n ((zs.drop (a + 1)).take (nn - (k + 1))) (O ++ [(zs.getD a 0 + gsZ t c n O O.length) % 256]) := by
  rw [List.drop_eq_getElem_cons ha, show nn - k = (nn - (k + 1)) + 1 by omega, List.take_succ_cons, rowU, getD_eq zs a ha]
set_option maxHeartbeats 8000000 in
theorem refUndo (P C K : Int) (A : Option Addr) (n c : Nat) (zs : List Int) (w : World) (hb : Byt w w.heap.size A n c zs) (hn : n ≤ 1000000) (R : List Int × Int) (hR : undZ P C K zs = R) :
    Calls Try.prog 14 #[shV P C K, .slice A n c] w (RdP w R) := by
  have HB := Lib.hid (fun W (hW : Below w.heap.size w W) => (hb.below hW (Nat.le_refl _)).more hW.size)
  have HLEN := Lib.hid hb.len
  have HRG := Lib.hid hb.rng
  have HW1 := Lib.hid ((Below.refl w.heap.size w).alloc (Nat.le_refl _) (.cells #[.int .i64 P, .int .i64 C, .int .i64 K] 30))
  have HSH := Lib.hid (ShB.new w P C K)
  obtain ⟨W1, hW1⟩ : ∃ W1, w.alloc (.cells #[.int .i64 P, .int .i64 C, .int .i64 K] 30) = W1 := ⟨_, rfl⟩
  have hsz : W1.heap.size = w.heap.size + 1 := by rw [← hW1]; simp
  rw [hW1] at HW1 HSH
  have HMY := Lib.hid (mayC P C K W1)
  have HCP := Lib.hid (fun W (hW : Byt W W.heap.size A n c zs) => refCopy A n c zs W hW (by omega))
  have a0 := HSH.out.c0
  have a1 := HSH.out.c1
  have a2 := HSH.out.c2
  have HSZ := Lib.hid hsz
  clear hb hsz
  rcases hmay : mayZ P C K with _ | _
  · rw [undZ, if_pos hmay] at hR
    subst hR
    rw [hmay] at HMY
    clear hmay
    go_enter Try.func14, Try.ntmps14
    go_wp2_with (go_at_call 16; refine HMY.out.mono ?_; (rintro r w2 ⟨rfl, hb2⟩); have HB2 := Lib.hid (HW1.out.trans (hb2.mono HW1.out.size)); clear hb2)
    go_ret2
    exact RdP.of_bad 1 HB2.out
  · obtain ⟨hP, cc, kk, nn, rfl, rfl, hc1, hc4, hk1, hk4, hnn, hn1, hn2, hCK, hCn⟩ := may_parts hmay
    have hcc : 1 ≤ cc ∧ cc ≤ 4 := ⟨hc1, hc4⟩
    have hkk : 1 ≤ kk ∧ kk ≤ 4096 := ⟨hk1, hk4⟩
    rw [undZ, if_neg (by rw [hmay]; decide), hCK, hCn] at hR
    rw [hmay] at HMY
    have eNN : (cc : Int) * (kk : Int) = nn := by rw [← hnn]; simp
    have wNN : IntKind.i64.wrap (nn : Int) = nn := IntWalk.i64_in _ (by omega)
    have hn00 : ¬ (nn : Int) = 0 := by omega
    clear hmay hCK hCn
    by_cases hP1 : P = 1
    · subst hP1
      rw [if_pos rfl] at hR
      subst hR
      go_enter Try.func14, Try.ntmps14
      go_wp2_with (first
        | (go_at_call 16; refine HMY.out.mono ?_; (rintro r w2 ⟨rfl, hb2⟩); have HB2 := Lib.hid (HW1.out.trans (hb2.mono HW1.out.size)); have k0 := (HSH.out.below hb2 (by have := HSZ.out; omega)).c0; clear hb2)
        | (go_at_call 17; refine (HCP.out _ (HB.out _ HB2.out)).mono ?_; (rintro r w3 ⟨v3, rfl, hm3, hb3⟩); have HM3 := Lib.hid hm3; have HB3 := Lib.hid (HB2.out.trans (hb3.mono HB2.out.size)); clear hm3 hb3))
      go_ret2
      exact RdP.of_row HB3.out (by rw [HLEN.out]; exact HM3.out)
    · rw [if_neg hP1, HLEN.out] at hR
      have hp1 : (P == 1) = false := beq_eq_false_iff_ne.2 hP1
      have hnpos : n = 0 ∨ 0 < n := by omega
      have HCB : Hid (∃ b o, (0 < n → A = some ⟨b, o, none⟩) ∧ ∀ W, Below W1.heap.size W1 W → ∀ j, j < n → W.cell? ⟨b, o + j, none⟩ = some (.int .u8 (zs.getD j 0))) := Lib.hid (by
        rcases hnpos with h0 | h0
        · exact ⟨0, 0, fun h => by omega, fun W _ j hj => by omega⟩
        · obtain ⟨b, o, he, _, _⟩ := (HB.out W1 HW1.out).cell h0
          refine ⟨b, o, fun _ => he, fun W hW j hj => ?_⟩
          obtain ⟨b', o', he', _, hcl'⟩ := (HB.out W (HW1.out.trans (hW.mono HW1.out.size))).cell h0
          have e3 := he.symm.trans he'
          simp only [Option.some.injEq, Addr.mk.injEq] at e3
          obtain ⟨e1, e2, _⟩ := e3
          rw [e1, e2]
          exact hcl' j hj)
      obtain ⟨b, o, hAe, hcb⟩ := HCB.out
      clear HCB hnpos
      have HCB := Lib.hid hcb
      clear hcb
      obtain rfl | hP2 : P = 2 ∨ (10 ≤ P ∧ P ≤ 15) := by omega
      · rw [if_neg (show ¬ (10 : Int) ≤ 2 by omega)] at hR
        obtain ⟨N, hN⟩ : ∃ N, nn + 0 = N := ⟨_, rfl⟩
        rw [hN] at hR
        obtain ⟨rm, hrm⟩ : ∃ rm, n % N = rm := ⟨_, rfl⟩
        rw [hrm] at hR
        have hNn : nn = N := by omega
        have er1 : (n : Int).tmod nn = rm := by rw [Int.tmod_eq_emod_of_nonneg (by omega), hNn]; omega
        have er2 : (n : Int) % nn = rm := by rw [hNn]; omega
        by_cases hrm0 : rm = 0
        · rw [if_neg (by omega)] at hR
          have er3 : ((rm : Int) != 0) = false := by simp [hrm0]
          have HDN : Hid (N ∣ n) := Lib.hid (Nat.dvd_of_mod_eq_zero (by omega))
          have HUU := Lib.hid hR
          have HNn := Lib.hid hNn
          clear hR hP hP1 hrm0 hrm hN hNn
          go_enter Try.func14, Try.ntmps14
          go_wp2_with (first
            | (go_at_call 16; refine HMY.out.mono ?_; (rintro r w2 ⟨rfl, hb2⟩); have HB2 := Lib.hid hb2; have hs2 := HSH.out.below hb2 (by have := HSZ.out; omega); have k0 := hs2.c0; have k1 := hs2.c1; have k2 := hs2.c2; clear hb2 hs2))
          go_loopw [8, 9, 10, 11, 12, 13, 14] (fun ox rv _ _ _ _ _ wr => ∃ (ov : Value) (r f : Nat) (O : List Int), ov = ox ∧ rv = .int .i64 r ∧ r ≤ n ∧ n ≤ r + f ∧ Hid (N ∣ r) ∧ O.length ≤ r ∧ Hid (undF cc nn 0 zs f r O = R) ∧ Hid (Mine wr W1.heap.size ov O.length O) ∧ Hid (Below W1.heap.size W1 wr)) (fun _ rv _ _ _ _ _ _ => n - (intOf rv).toNat)
          case atStart => exact ⟨_, 0, n, [], rfl, rfl, Nat.zero_le _, by omega, Lib.hid (Nat.dvd_zero _), Nat.zero_le _, Lib.hid HUU.out, Lib.hid (Mine.nil _ _), HB2⟩
          case round =>
            obtain ⟨ov, r, f0, O, rfl, rfl, hr, hf, HDR, hol, HO, HM, HBE⟩ := hrel
            by_cases hlt : r < n
            · obtain ⟨f, rfl⟩ : ∃ f, f0 = f + 1 := ⟨f0 - 1, by omega⟩
              have hst := dvd_step N r n HDR.out HDN.out hlt
              have ho := HO.out
              rw [undF, if_pos (by rw [HLEN.out]; exact hlt)] at ho
              have hin : (r : Int) < n := by omega
              rw [if_neg (show ¬ (0 : Nat) = 1 by omega), if_neg (show ¬ (4 : Int) < 1 by omega)] at ho
              obtain rfl := hAe (by omega)
              have hst : r + nn ≤ n := by rw [HNn.out]; exact hst
              have htr : 0 ≤ (1 : Int) ∧ (1 : Int) ≤ 4 := by omega
              have wr1 : IntKind.i64.wrap (r : Int) = r := IntWalk.i64_in _ (by omega)
              obtain ⟨r1, hr1⟩ : ∃ r1, r + 0 = r1 := ⟨_, rfl⟩
              rw [hr1] at ho
              obtain ⟨r2, hr2⟩ : ∃ r2, r + nn = r2 := ⟨_, rfl⟩
              rw [show r + nn + 0 = r2 by omega] at ho
              have HDV : Hid (N ∣ r2) := Lib.hid (by rw [← hr2, HNn.out]; exact Nat.dvd_add HDR.out (Nat.dvd_refl N))
              obtain rfl : r1 = r := by omega
              clear hAe
              obtain ⟨ROW, hROW⟩ : ∃ ROW, rowU (1 : Int) cc nn ((zs.drop r1).take nn) O = ROW := ⟨_, rfl⟩
              rw [hROW] at ho
              have HRW := Lib.hid hROW
              have HHO := Lib.hid ho
              clear hROW ho
              go_wp2_with fail
              go_loopw [8, 11, 12, 13, 14] (fun ox kv _ _ _ wq => ∃ (ov : Value) (k : Nat) (Q : List Int), ov = ox ∧ k ≤ nn ∧ kv = .int .i64 k ∧ Hid (Q.length = O.length + k) ∧ Hid (rowU (1 : Int) cc nn ((zs.drop (r1 + k)).take (nn - k)) Q = ROW) ∧ Hid (Mine wq W1.heap.size ov Q.length Q) ∧ Hid (Below W1.heap.size W1 wq)) (fun _ kv _ _ _ _ => nn - (intOf kv).toNat)
              case atStart => exact ⟨_, 0, O, rfl, Nat.zero_le _, rfl, Lib.hid rfl, HRW, HM, HBE⟩
              case round =>
                obtain ⟨ov, k, Q, rfl, hk, rfl, HQL0, HQ, HMQ, HBQ⟩ := hrel
                have HQL : Hid (Q.length ≤ 1100000) := Lib.hid (by have := HQL0.out; omega)
                by_cases hkn : k < nn
                · obtain ⟨a, hae⟩ : ∃ a, r1 + k = a := ⟨_, rfl⟩
                  have han : a < n := by omega
                  have ha1 : r1 + (k + 1) = a + 1 := by omega
                  have hq := HQ.out
                  rw [hae, rowU_step (1 : Int) cc nn zs Q a k nn (by rw [HLEN.out]; exact han) hkn, ← ha1] at hq
                  have hsh := HSH.out.below HBQ.out (by have := HSZ.out; omega)
                  have k0 := hsh.c0
                  have k1 := hsh.c1
                  have k2 := hsh.c2
                  have HQ0 : Hid (∀ z ∈ Q ++ [(0 : Int)], 0 ≤ z ∧ z < 256) := Lib.hid (fun z hz => by
                    rcases List.mem_append.1 hz with hz | hz
                    · exact HMQ.out.rng z hz
                    · simp only [List.mem_singleton] at hz; omega)
                  have HAO := Lib.hid (HMQ.out.drewO 0 (by omega) HBQ.out.size (by have := HQL.out; omega))
                  have HNR := Lib.hid (fun A3 c3 W (hW : Byt W W.heap.size A3 (Q.length + 1) c3 (Q ++ [(0 : Int)])) => nearC (2 : Int) cc kk nn A3 (Q.length + 1) c3 Q.length (Q ++ [(0 : Int)]) W hW (by omega) (by have := HQL.out; omega) hcc hkk hnn)
                  have hgr := gsZ_rng (1 : Int) cc nn (Q ++ [(0 : Int)]) HQ0.out Q.length
                  obtain ⟨la, hla⟩ : ∃ la, leZ cc nn (Q ++ [(0 : Int)]) Q.length = la := ⟨_, rfl⟩
                  obtain ⟨ab, hab⟩ : ∃ ab, abZ nn (Q ++ [(0 : Int)]) Q.length = ab := ⟨_, rfl⟩
                  obtain ⟨be, hbe⟩ : ∃ be, beZ cc nn (Q ++ [(0 : Int)]) Q.length = be := ⟨_, rfl⟩
                  have rla := leZ_rng cc nn (Q ++ [(0 : Int)]) HQ0.out Q.length
                  have rab := abZ_rng nn (Q ++ [(0 : Int)]) HQ0.out Q.length
                  have rbe := beZ_rng cc nn (Q ++ [(0 : Int)]) HQ0.out Q.length
                  rw [← gsZ_zero (1 : Int) cc nn Q 0 (by omega) (by omega)] at hq
                  have hge : gsZ (1 : Int) cc nn (Q ++ [(0 : Int)]) Q.length = guessZ (1 : Int) la ab be := by rw [gsZ, hla, hab, hbe]
                  rw [hla] at HNR rla
                  rw [hab] at HNR rab
                  rw [hbe] at HNR rbe
                  rw [hge] at hq hgr
                  have HGS := Lib.hid (fun W => guessC (1 : Int) la ab be W (by omega) rla rab rbe)
                  obtain ⟨g, hg⟩ : ∃ g, guessZ (1 : Int) la ab be = g := ⟨_, rfl⟩
                  rw [hg] at HGS hgr hq
                  have hxr := getD_rng zs HRG.out a
                  obtain ⟨x, hx⟩ : ∃ x, zs.getD a 0 = x := ⟨_, rfl⟩
                  rw [hx] at hxr hq
                  have HCX : Hid (∀ W, Below W1.heap.size W1 W → W.cell? ⟨b, o + a, none⟩ = some (.int .u8 x)) := Lib.hid (fun W hW => by rw [HCB.out W hW a han, hx])
                  obtain ⟨V, hV⟩ : ∃ V, (x + g) % 256 = V := ⟨_, rfl⟩
                  rw [hV] at hq
                  have hVr : 0 ≤ V ∧ V < 256 := by omega
                  have wg : IntKind.u8.wrap g = g := IntWalk.u8_in _ (by omega)
                  have wV : IntKind.u8.wrap (x + g) = V := by rw [IntKind.wrap_u8]; exact hV
                  have wa : IntKind.i64.wrap ((r1 : Int) + (k : Int)) = (a : Int) := by rw [← hae]; exact IntWalk.i64_in _ (by omega)
                  have hai : (a : Int) < n := by omega
                  have hki : (k : Int) < nn := by omega
                  have HVR := Lib.hid hVr
                  have HHQ := Lib.hid hq
                  obtain ⟨Aq, cq, hov, _⟩ := HMQ.out.byt
                  subst hov
                  clear hla hab hbe hge hg hx hV hq hsh rla rab rbe hxr hgr hVr
                  go_upto_region 23 with fail
                  go_region_held3 (fun w' => w'.cell? ⟨w.heap.size, 0, none⟩ = some (.int .i64 (2 : Int)) ∧ w'.cell? ⟨w.heap.size, 1, none⟩ = some (.int .i64 (cc : Int)) ∧ w'.cell? ⟨w.heap.size, 2, none⟩ = some (.int .i64 (kk : Int))) (first | exact ⟨m0, m1, m2⟩ | exact ⟨k0, k1, k2⟩ | go_keep | assumption)
                   (first
                    | (obtain ⟨A3, c3, w3, hrun, hby3, hmo3, hb3⟩ := HAO.out; refine step_append_run9 rfl (.tmp 63) (.tmp 64) 23 rfl (.slice Aq Q.length cq) (.slice (some ⟨wr.heap.size, 0, none⟩) 1 1) rfl rfl hrun ?_; have HY3 := Lib.hid hby3; have HM3 := Lib.hid hmo3; have HB3 := Lib.hid (HBQ.out.trans hb3); have hs3 := HSH.out.below HB3.out (by have := HSZ.out; omega); have m0 := hs3.c0; have m1 := hs3.c1; have m2 := hs3.c2; clear hrun hby3 hmo3 hb3 HAO hs3)
                    | (go_simp; go_at_call 21; refine (HNR.out _ _ _ HY3.out).mono ?_; (rintro r w4 ⟨rfl, hb4⟩); have HB4 := Lib.hid (HB3.out.trans (hb4.mono HB3.out.size)); have HM4 := Lib.hid (HM3.out.kept hb4); have cx4 := HCX.out _ HB4.out; have hs4 := HSH.out.below HB4.out (by have := HSZ.out; omega); have m0 := hs4.c0; have m1 := hs4.c1; have m2 := hs4.c2; have HAP := Lib.hid (HM4.out.drew9 V HVR.out HB4.out.size (by have := HQL.out; omega)); clear hb4 hs4))
                  all_goals
                    have lb4 := cell_lt cx4
                    go_upto_region 24 with fail
                    go_region_held3 (fun w' => w'.cell? ⟨b, o + a, none⟩ = some (.int .u8 x)) (first | go_keep | assumption)
                     (first
                      | (obtain ⟨A6, c6, w6, hrun, hm6, hb6⟩ := HAP.out; refine step_append_run9 rfl (.tmp 72) (.tmp 88) 23 rfl (.slice Aq Q.length cq) (.slice (some ⟨w4.heap.size, 0, none⟩) 1 1) rfl rfl hrun ?_; have HM6 := Lib.hid hm6; have HB6 := Lib.hid (HB4.out.trans hb6); have cx6 := HCX.out _ HB6.out; clear hrun hm6 hb6 HAP)
                      | (go_simp; go_at_call 22; with_reducible refine (HGS.out _).mono ?_; (rintro r w5 ⟨rfl, rfl⟩)))
                    all_goals
                      go_wp2_with fail
                      go_roundw
                      case rel => exact ⟨_, k + 1, _, rfl, by omega, by go_num, Lib.hid (by have := HQL0.out; rw [List.length_append]; simp; omega), HHQ, Lib.hid HM6.out.cast9, HB6⟩
                      case measure => simp [intOf]; omega
                · obtain rfl : nn = k := by omega
                  have hq := HQ.out
                  rw [Nat.sub_self, List.take_zero, rowU] at hq
                  subst hq
                  have HHO2 := Lib.hid HHO.out
                  have hre : r2 ≤ n := by omega
                  go_wp2_with fail
                  go_roundw
                  case rel => exact ⟨_, r2, f, _, rfl, by go_num, by omega, by omega, HDV, by have := HQL0.out; omega, HHO, HMQ, HBQ⟩
                  case measure => simp [intOf]; omega
            · obtain rfl : n = r := by omega
              have ho := HO.out
              obtain rfl : (O, 0) = R := by
                rw [← ho]
                rcases f0 with _ | f
                · rfl
                · rw [undF, if_neg (by rw [HLEN.out]; omega)]
              go_wp2_with fail
              go_ret2
              exact RdP.of_row (HW1.out.trans (HBE.out.mono HW1.out.size)) HM.out
        · rw [if_pos hrm0] at hR
          subst hR
          have er3 : ((rm : Int) != 0) = true := by simp [hrm0]
          clear hP1 hrm0 hN hNn
          go_enter Try.func14, Try.ntmps14
          go_wp2_with (first
            | (go_at_call 16; refine HMY.out.mono ?_; (rintro r w2 ⟨rfl, hb2⟩); have HB2 := Lib.hid (HW1.out.trans (hb2.mono HW1.out.size)); have hs2 := HSH.out.below hb2 (by have := HSZ.out; omega); have k0 := hs2.c0; have k1 := hs2.c1; have k2 := hs2.c2; clear hb2))
          go_ret2
          exact RdP.of_bad 4 HB2.out
      · rw [if_pos hP2.1] at hR
        obtain ⟨N, hN⟩ : ∃ N, nn + 1 = N := ⟨_, rfl⟩
        rw [hN] at hR
        obtain ⟨rm, hrm⟩ : ∃ rm, n % N = rm := ⟨_, rfl⟩
        rw [hrm] at hR
        have er1 : (n : Int).tmod N = rm := by rw [Int.tmod_eq_emod_of_nonneg (by omega)]; omega
        have er2 : (n : Int) % N = rm := by omega
        have wN1 : IntKind.i64.wrap ((nn : Int) + 1) = (N : Int) := by rw [← hN]; exact IntWalk.i64_in _ (by omega)
        have hN0 : ¬ (N : Int) = 0 := by omega
        have gP : P ≥ (10 : Int) := hP2.1
        by_cases hrm0 : rm = 0
        · rw [if_neg (by omega)] at hR
          have er3 : ((rm : Int) != 0) = false := by simp [hrm0]
          have HDN : Hid (N ∣ n) := Lib.hid (Nat.dvd_of_mod_eq_zero (by omega))
          have HUU := Lib.hid hR
          have HNn := Lib.hid hN
          clear hR hP hP1 hrm0 hrm hN hP2
          go_enter Try.func14, Try.ntmps14
          go_wp2_with (first
            | (go_at_call 16; refine HMY.out.mono ?_; (rintro r w2 ⟨rfl, hb2⟩); have HB2 := Lib.hid hb2; have hs2 := HSH.out.below hb2 (by have := HSZ.out; omega); have k0 := hs2.c0; have k1 := hs2.c1; have k2 := hs2.c2; clear hb2 hs2))
          go_loopw [8, 9, 10, 11, 12, 13, 14] (fun ox rv _ _ _ _ _ wr => ∃ (ov : Value) (r f : Nat) (O : List Int), ov = ox ∧ rv = .int .i64 r ∧ r ≤ n ∧ n ≤ r + f ∧ Hid (N ∣ r) ∧ O.length ≤ r ∧ Hid (undF cc nn 1 zs f r O = R) ∧ Hid (Mine wr W1.heap.size ov O.length O) ∧ Hid (Below W1.heap.size W1 wr)) (fun _ rv _ _ _ _ _ _ => n - (intOf rv).toNat)
          case atStart => exact ⟨_, 0, n, [], rfl, rfl, Nat.zero_le _, by omega, Lib.hid (Nat.dvd_zero _), Nat.zero_le _, Lib.hid HUU.out, Lib.hid (Mine.nil _ _), HB2⟩
          case round =>
            obtain ⟨ov, r, f0, O, rfl, rfl, hr, hf, HDR, hol, HO, HM, HBE⟩ := hrel
            by_cases hlt : r < n
            · obtain ⟨f, rfl⟩ : ∃ f, f0 = f + 1 := ⟨f0 - 1, by omega⟩
              have hst := dvd_step N r n HDR.out HDN.out hlt
              have ho := HO.out
              rw [undF, if_pos (by rw [HLEN.out]; exact hlt)] at ho
              have hin : (r : Int) < n := by omega
              rw [if_pos rfl] at ho
              obtain rfl := hAe (by omega)
              have ci := HCB.out wr HBE.out r hlt
              have htr := getD_rng zs HRG.out r
              obtain ⟨t, ht⟩ : ∃ t, zs.getD r 0 = t := ⟨_, rfl⟩
              rw [ht] at ho ci htr
              clear ht
              by_cases g4 : 4 < t
              · rw [if_pos g4] at ho
                subst ho
                have gt4 : t > (4 : Int) := g4
                clear hst
                go_wp2_with fail
                go_ret2
                exact RdP.of_bad 4 (HW1.out.trans (HBE.out.mono HW1.out.size))
              · rw [if_neg g4] at ho
                have gt4 : ¬ t > (4 : Int) := g4
                have htr : 0 ≤ t ∧ t ≤ 4 := by omega
                have hst : r + nn + 1 ≤ n := by have := HNn.out; omega
                obtain ⟨r1, hr1⟩ : ∃ r1, r + 1 = r1 := ⟨_, rfl⟩
                rw [hr1] at ho
                obtain ⟨rn, hrn⟩ : ∃ rn, r + nn = rn := ⟨_, rfl⟩
                obtain ⟨r2, hr2⟩ : ∃ r2, rn + 1 = r2 := ⟨_, rfl⟩
                rw [show r + nn + 1 = r2 by omega] at ho
                have HDV : Hid (N ∣ r2) := Lib.hid (by rw [← hr2, ← hrn, show r + nn + 1 = r + N by have := HNn.out; omega]; exact Nat.dvd_add HDR.out (Nat.dvd_refl N))
                have wr1 : IntKind.i64.wrap ((r : Int) + 1) = (r1 : Int) := by rw [← hr1]; exact IntWalk.i64_in _ (by omega)
                have wrn : IntKind.i64.wrap ((r : Int) + (nn : Int)) = (rn : Int) := by rw [← hrn]; exact IntWalk.i64_in _ (by omega)
                have wr2 : IntKind.i64.wrap ((rn : Int) + 1) = (r2 : Int) := by rw [← hr2]; exact IntWalk.i64_in _ (by omega)
                clear hAe
                obtain ⟨ROW, hROW⟩ : ∃ ROW, rowU t cc nn ((zs.drop r1).take nn) O = ROW := ⟨_, rfl⟩
                rw [hROW] at ho
                have HRW := Lib.hid hROW
                have HHO := Lib.hid ho
                clear hROW ho
                go_wp2_with fail
                go_loopw [8, 11, 12, 13, 14] (fun ox kv _ _ _ wq => ∃ (ov : Value) (k : Nat) (Q : List Int), ov = ox ∧ k ≤ nn ∧ kv = .int .i64 k ∧ Hid (Q.length = O.length + k) ∧ Hid (rowU t cc nn ((zs.drop (r1 + k)).take (nn - k)) Q = ROW) ∧ Hid (Mine wq W1.heap.size ov Q.length Q) ∧ Hid (Below W1.heap.size W1 wq)) (fun _ kv _ _ _ _ => nn - (intOf kv).toNat)
                case atStart => exact ⟨_, 0, O, rfl, Nat.zero_le _, rfl, Lib.hid rfl, HRW, HM, HBE⟩
                case round =>
                  obtain ⟨ov, k, Q, rfl, hk, rfl, HQL0, HQ, HMQ, HBQ⟩ := hrel
                  have HQL : Hid (Q.length ≤ 1100000) := Lib.hid (by have := HQL0.out; omega)
                  by_cases hkn : k < nn
                  · obtain ⟨a, hae⟩ : ∃ a, r1 + k = a := ⟨_, rfl⟩
                    have han : a < n := by omega
                    have ha1 : r1 + (k + 1) = a + 1 := by omega
                    have hq := HQ.out
                    rw [hae, rowU_step t cc nn zs Q a k nn (by rw [HLEN.out]; exact han) hkn, ← ha1] at hq
                    have hsh := HSH.out.below HBQ.out (by have := HSZ.out; omega)
                    have k0 := hsh.c0
                    have k1 := hsh.c1
                    have k2 := hsh.c2
                    have HQ0 : Hid (∀ z ∈ Q ++ [(0 : Int)], 0 ≤ z ∧ z < 256) := Lib.hid (fun z hz => by
                      rcases List.mem_append.1 hz with hz | hz
                      · exact HMQ.out.rng z hz
                      · simp only [List.mem_singleton] at hz; omega)
                    have HAO := Lib.hid (HMQ.out.drewO 0 (by omega) HBQ.out.size (by have := HQL.out; omega))
                    have HNR := Lib.hid (fun A3 c3 W (hW : Byt W W.heap.size A3 (Q.length + 1) c3 (Q ++ [(0 : Int)])) => nearC P cc kk nn A3 (Q.length + 1) c3 Q.length (Q ++ [(0 : Int)]) W hW (by omega) (by have := HQL.out; omega) hcc hkk hnn)
                    have hgr := gsZ_rng t cc nn (Q ++ [(0 : Int)]) HQ0.out Q.length
                    obtain ⟨la, hla⟩ : ∃ la, leZ cc nn (Q ++ [(0 : Int)]) Q.length = la := ⟨_, rfl⟩
                    obtain ⟨ab, hab⟩ : ∃ ab, abZ nn (Q ++ [(0 : Int)]) Q.length = ab := ⟨_, rfl⟩
                    obtain ⟨be, hbe⟩ : ∃ be, beZ cc nn (Q ++ [(0 : Int)]) Q.length = be := ⟨_, rfl⟩
                    have rla := leZ_rng cc nn (Q ++ [(0 : Int)]) HQ0.out Q.length
                    have rab := abZ_rng nn (Q ++ [(0 : Int)]) HQ0.out Q.length
                    have rbe := beZ_rng cc nn (Q ++ [(0 : Int)]) HQ0.out Q.length
                    rw [← gsZ_zero t cc nn Q 0 (by omega) (by omega)] at hq
                    have hge : gsZ t cc nn (Q ++ [(0 : Int)]) Q.length = guessZ t la ab be := by rw [gsZ, hla, hab, hbe]
                    rw [hla] at HNR rla
                    rw [hab] at HNR rab
                    rw [hbe] at HNR rbe
                    rw [hge] at hq hgr
                    have HGS := Lib.hid (fun W => guessC t la ab be W (by omega) rla rab rbe)
                    obtain ⟨g, hg⟩ : ∃ g, guessZ t la ab be = g := ⟨_, rfl⟩
                    rw [hg] at HGS hgr hq
                    have hxr := getD_rng zs HRG.out a
                    obtain ⟨x, hx⟩ : ∃ x, zs.getD a 0 = x := ⟨_, rfl⟩
                    rw [hx] at hxr hq
                    have HCX : Hid (∀ W, Below W1.heap.size W1 W → W.cell? ⟨b, o + a, none⟩ = some (.int .u8 x)) := Lib.hid (fun W hW => by rw [HCB.out W hW a han, hx])
                    obtain ⟨V, hV⟩ : ∃ V, (x + g) % 256 = V := ⟨_, rfl⟩
                    rw [hV] at hq
                    have hVr : 0 ≤ V ∧ V < 256 := by omega
                    have wg : IntKind.u8.wrap g = g := IntWalk.u8_in _ (by omega)
                    have wV : IntKind.u8.wrap (x + g) = V := by rw [IntKind.wrap_u8]; exact hV
                    have wa : IntKind.i64.wrap ((r1 : Int) + (k : Int)) = (a : Int) := by rw [← hae]; exact IntWalk.i64_in _ (by omega)
                    have hai : (a : Int) < n := by omega
                    have hki : (k : Int) < nn := by omega
                    have HVR := Lib.hid hVr
                    have HHQ := Lib.hid hq
                    obtain ⟨Aq, cq, hov, _⟩ := HMQ.out.byt
                    subst hov
                    clear hla hab hbe hge hg hx hV hq hsh rla rab rbe hxr hgr hVr
                    go_upto_region 23 with fail
                    go_region_held3 (fun w' => w'.cell? ⟨w.heap.size, 0, none⟩ = some (.int .i64 P) ∧ w'.cell? ⟨w.heap.size, 1, none⟩ = some (.int .i64 (cc : Int)) ∧ w'.cell? ⟨w.heap.size, 2, none⟩ = some (.int .i64 (kk : Int))) (first | exact ⟨m0, m1, m2⟩ | exact ⟨k0, k1, k2⟩ | go_keep | assumption)
                     (first
                      | (obtain ⟨A3, c3, w3, hrun, hby3, hmo3, hb3⟩ := HAO.out; refine step_append_run9 rfl (.tmp 63) (.tmp 64) 23 rfl (.slice Aq Q.length cq) (.slice (some ⟨wr.heap.size, 0, none⟩) 1 1) rfl rfl hrun ?_; have HY3 := Lib.hid hby3; have HM3 := Lib.hid hmo3; have HB3 := Lib.hid (HBQ.out.trans hb3); have hs3 := HSH.out.below HB3.out (by have := HSZ.out; omega); have m0 := hs3.c0; have m1 := hs3.c1; have m2 := hs3.c2; clear hrun hby3 hmo3 hb3 HAO hs3)
                      | (go_simp; go_at_call 21; refine (HNR.out _ _ _ HY3.out).mono ?_; (rintro r w4 ⟨rfl, hb4⟩); have HB4 := Lib.hid (HB3.out.trans (hb4.mono HB3.out.size)); have HM4 := Lib.hid (HM3.out.kept hb4); have cx4 := HCX.out _ HB4.out; have hs4 := HSH.out.below HB4.out (by have := HSZ.out; omega); have m0 := hs4.c0; have m1 := hs4.c1; have m2 := hs4.c2; have HAP := Lib.hid (HM4.out.drew9 V HVR.out HB4.out.size (by have := HQL.out; omega)); clear hb4 hs4))
                    all_goals
                      have lb4 := cell_lt cx4
                      go_upto_region 24 with fail
                      go_region_held3 (fun w' => w'.cell? ⟨b, o + a, none⟩ = some (.int .u8 x)) (first | go_keep | assumption)
                       (first
                        | (obtain ⟨A6, c6, w6, hrun, hm6, hb6⟩ := HAP.out; refine step_append_run9 rfl (.tmp 72) (.tmp 88) 23 rfl (.slice Aq Q.length cq) (.slice (some ⟨w4.heap.size, 0, none⟩) 1 1) rfl rfl hrun ?_; have HM6 := Lib.hid hm6; have HB6 := Lib.hid (HB4.out.trans hb6); have cx6 := HCX.out _ HB6.out; clear hrun hm6 hb6 HAP)
                        | (go_simp; go_at_call 22; with_reducible refine (HGS.out _).mono ?_; (rintro r w5 ⟨rfl, rfl⟩)))
                      all_goals
                        go_wp2_with fail
                        go_roundw
                        case rel => exact ⟨_, k + 1, _, rfl, by omega, by go_num, Lib.hid (by have := HQL0.out; rw [List.length_append]; simp; omega), HHQ, Lib.hid HM6.out.cast9, HB6⟩
                        case measure => simp [intOf]; omega
                  · obtain rfl : nn = k := by omega
                    have hq := HQ.out
                    rw [Nat.sub_self, List.take_zero, rowU] at hq
                    subst hq
                    have HHO2 := Lib.hid HHO.out
                    have hre : r2 ≤ n := by omega
                    go_wp2_with fail
                    go_roundw
                    case rel => exact ⟨_, r2, f, _, rfl, by go_num, by omega, by omega, HDV, by have := HQL0.out; omega, HHO, HMQ, HBQ⟩
                    case measure => simp [intOf]; omega
            · obtain rfl : n = r := by omega
              have ho := HO.out
              obtain rfl : (O, 0) = R := by
                rw [← ho]
                rcases f0 with _ | f
                · rfl
                · rw [undF, if_neg (by rw [HLEN.out]; omega)]
              go_wp2_with fail
              go_ret2
              exact RdP.of_row (HW1.out.trans (HBE.out.mono HW1.out.size)) HM.out
        · rw [if_pos hrm0] at hR
          subst hR
          have er3 : ((rm : Int) != 0) = true := by simp [hrm0]
          clear hP1 hrm0 hN
          go_enter Try.func14, Try.ntmps14
          go_wp2_with (first
            | (go_at_call 16; refine HMY.out.mono ?_; (rintro r w2 ⟨rfl, hb2⟩); have HB2 := Lib.hid (HW1.out.trans (hb2.mono HW1.out.size)); have hs2 := HSH.out.below hb2 (by have := HSZ.out; omega); have k0 := hs2.c0; have k1 := hs2.c1; have k2 := hs2.c2; clear hb2))
          go_ret2
          exact RdP.of_bad 4 HB2.out
end Go.Proofs.Ytagkjndiifcekaa
