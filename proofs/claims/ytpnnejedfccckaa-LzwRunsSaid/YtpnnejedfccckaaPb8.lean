/- Chapter 8, the project's row of bits within a greater struct: Align, Bytes. -/
import Derived.Test.YtpnnejedfccckaaPp8
import Derived.Deep.RegionLaw
namespace Go.Proofs.Ytpnnejedfccckaa
open Go.RowKit
set_option linter.unusedVariables false
set_option maxRecDepth 100000

theorem lowb_zero : ∀ k, lowb 0 k = List.replicate k 0
  | 0 => rfl
  | k + 1 => by rw [lowb, lowb_zero k, List.replicate_succ']; simp
theorem Mine.cast {w : World} {base p : Nat} {v : Value} {zs : List Int} (h : Mine w base v p zs) : Mine w base v zs.length zs := by rw [h.len]; exact h
theorem splice_mid (X Y Y' Z : List Int) (k : Nat) (hX : X.length = k) (hY : Y'.length = Y.length) : splice (u8s (X ++ Y ++ Z)) k (u8s Y') = u8s (X ++ Y' ++ Z) := by
  subst hX
  have e1 : u8s (X ++ Y ++ Z) = u8s X ++ (u8s Y ++ u8s Z) := by simp [u8s]
  have e2 : u8s (X ++ Y' ++ Z) = u8s X ++ (u8s Y' ++ u8s Z) := by simp [u8s]
  have l1 : (u8s X).length = X.length := by simp [u8s]
  have l2 : (u8s Y').length = (u8s Y).length := by simp [u8s, hY]
  rw [e1, e2]
  unfold splice
  rw [List.take_append_of_le_length (by omega), List.take_of_length_le (by omega), List.drop_append, List.drop_eq_nil_of_le (by omega), List.nil_append, l1, Nat.add_sub_cancel_left, l2, List.drop_left]
/-- The first noughts, then what stands there, then a nought. -/
def rowZ (F : List Int) (k : Nat) : List Int := List.replicate (256 * k) 0 ++ F.drop (256 * k) ++ [0]
theorem rowZ_len (F : List Int) (k : Nat) (h : 256 * k ≤ F.length) : (rowZ F k).length = F.length + 1 := by
  simp only [rowZ, List.length_append, List.length_replicate, List.length_drop, List.length_cons, List.length_nil]; omega
theorem rowZ_first (F : List Int) (k : Nat) (h : 256 * k ≤ F.length) : splice (u8s (List.replicate (F.length + 1) 0)) (256 * k) (u8s (F.drop (256 * k))) = u8s (rowZ F k) := by
  have e : List.replicate (F.length + 1) (0 : Int) = List.replicate (256 * k) 0 ++ List.replicate (F.length - 256 * k) 0 ++ [0] := by
    rw [List.replicate_append_replicate, show ([0] : List Int) = List.replicate 1 0 from rfl, List.replicate_append_replicate]
    congr 1
    omega
  rw [e, splice_mid _ _ (F.drop (256 * k)) _ (256 * k) (by simp) (by simp)]
  rfl
theorem rowZ_next (F xs : List Int) (k : Nat) (h : 256 * (k + 1) ≤ F.length) (hx : (F.drop (256 * k)).take 256 = xs) : splice (u8s (rowZ F (k + 1))) (256 * k) (u8s xs) = u8s (rowZ F k) := by
  have hxl : xs.length = 256 := by rw [← hx, List.length_take, List.length_drop]; omega
  have e : rowZ F (k + 1) = List.replicate (256 * k) 0 ++ List.replicate 256 0 ++ (F.drop (256 * (k + 1)) ++ [0]) := by
    unfold rowZ
    rw [show 256 * (k + 1) = 256 * k + 256 by omega, ← List.replicate_append_replicate]
    simp only [List.append_assoc]
  rw [e, splice_mid _ _ xs _ (256 * k) (by simp) (by simp [hxl])]
  unfold rowZ
  have e2 : F.drop (256 * k) = xs ++ F.drop (256 * (k + 1)) := by
    rw [← hx, show 256 * (k + 1) = 256 * k + 256 by omega, ← List.drop_drop, List.take_append_drop]
  rw [e2]
  simp only [List.append_assoc]
theorem rowZ_zero (F : List Int) : rowZ F 0 = F ++ [0] := by simp [rowZ]
set_option maxHeartbeats 4000000 in
theorem pbytes5 (g : Nat) (T : TypeId) (XT : List Value) (bs : List Nat) (L : List Int) (w : World) (h : PW w g T XT bs L) (hL : L.length ≤ 700000000) :
    Calls Try.prog 35 #[.pointer (some ⟨g, 0, none⟩)] w fun r w' => ∃ v, r = .returned v ∧ Mine w' w.heap.size v (pack L).length (pack L) ∧ Below w.heap.size w w' := by
  have HH := Lib.hid h
  obtain ⟨⟨p, part, hpr⟩, hb01⟩ := h
  have hsp := pack_split L
  obtain ⟨F, hF⟩ : ∃ F, (pack L).take (L.length / 8) = F := ⟨_, rfl⟩
  obtain ⟨R, hR⟩ : ∃ R, valZ (L.drop (8 * (L.length / 8))) = R := ⟨_, rfl⟩
  obtain ⟨m, hm⟩ : ∃ m, L.length % 8 = m := ⟨_, rfl⟩
  have hRb := valZ_bd (L.drop (8 * (L.length / 8))) (hb01.drop _)
  rw [List.length_drop, hR, show L.length - 8 * (L.length / 8) = m by omega] at hRb
  rw [hF, hR, hm] at hpr hsp
  have hFl : F.length = L.length / 8 := by rw [← hF, List.length_take, pack_len]; omega
  obtain ⟨n, hn⟩ : ∃ n, F.length = n := ⟨_, rfl⟩
  obtain ⟨K, hK⟩ : ∃ K, n / 256 = K := ⟨_, rfl⟩
  have hm8 : m < 8 := by omega
  have hR128 : R < 128 := by
    have : ∀ r : Fin 8, (2 : Int) ^ r.val ≤ 128 := by decide
    have := this ⟨m, hm8⟩
    dsimp only at this
    omega
  obtain ⟨W1, hW1⟩ : ∃ W1, (w.drewN 1).alloc (.cells (u8s (List.replicate (n + 1) 0)).toArray 5) = W1 := ⟨_, rfl⟩
  have hb1 : Below w.heap.size w W1 := by rw [← hW1]; exact (below_drewN (Below.refl _ _) 1).alloc (Nat.le_refl _) _
  have hrow1 : W1.heap[w.heap.size]? = some (.cells (u8s (List.replicate (n + 1) 0)).toArray 5 (0, 0)) := by rw [← hW1]; exact heap_alloc_new (w.drewN 1) _
  have hpr1 := hpr.more hb1
  have hmk := make_bytes n (n + 1) (w.drewN 1) (by omega) (by omega)
  rw [hW1] at hmk
  have c257 := hpr.c257
  rw [hn] at c257
  have d257 := hpr1.c257
  rw [hn] at d257
  have d0 := hpr1.c0
  have d258 := hpr1.c258
  have d259 := hpr1.c259
  have hKb : 256 * K ≤ n := by omega
  have hbsl : bs.length = K := by have := hpr.bl; omega
  have htl : part.take (n - 256 * K) = F.drop (256 * K) := by
    have := hpr.tail
    rw [hn, hbsl, show n % 256 = n - 256 * K by omega] at this
    exact this
  have hch := hpr.ch
  rw [hbsl] at hch
  have hpl := hpr.pl
  have hcp := hpr1.cpart
  have ed : (n : Int) % 256 = ((n % 256 : Nat) : Int) := by omega
  have e1 : IntKind.i64.wrap ((n : Int) + 1) = ((n + 1 : Nat) : Int) := by rw [Int.natCast_add]; exact IntWalk.i64_in _ (by omega)
  have hnb : (n : Int) ≤ 100000000 := by omega
  obtain ⟨n1, hn1⟩ : ∃ n1, n + 1 = n1 := ⟨_, rfl⟩
  rw [hn1] at hmk e1
  have HPR := Lib.hid hpr
  have HSP := Lib.hid hsp
  have HB1 := Lib.hid hb1
  have HROW := Lib.hid hrow1
  have HCH := Lib.hid hch
  have HTL := Lib.hid htl
  have HPL := Lib.hid hpl
  have HCP := Lib.hid hcp
  have HN := Lib.hid hn
  have HN1 := Lib.hid hn1
  have HK := Lib.hid hK
  have HRNG := Lib.hid hpr.rng
  have HR0 := Lib.hid hRb.1
  have hmk2 : (Instr.makeSlice 23 (.int .i64 (n : Int)) (.int .i64 (n1 : Int))).run Try.prog (w.drewN 1) = .ok (.slice (some ⟨w.heap.size, 0, none⟩) n n1) W1 := hmk
  obtain ⟨T0, hT0⟩ : ∃ T0, n % 256 = T0 := ⟨_, rfl⟩
  obtain ⟨a0, ha0⟩ : ∃ a0, 256 * K = a0 := ⟨_, rfl⟩
  have em1 : (n : Int) % 256 = T0 := by omega
  have em2 : (n : Int).tmod 256 = T0 := by rw [Int.tmod_eq_emod_of_nonneg (by omega)]; exact em1
  have em3 : (n : Int) - T0 = a0 := by omega
  have em4 : IntKind.i64.wrap ((n : Int) - T0) = a0 := by rw [em3]; exact IntWalk.i64_in _ (by omega)
  have em5 : IntKind.i64.wrap (T0 : Int) = T0 := IntWalk.i64_in _ (by omega)
  have em6 : IntKind.i64.wrap (a0 : Int) = a0 := IntWalk.i64_in _ (by omega)
  have hT256 : (T0 : Int) < 256 := by omega
  have HA0 := Lib.hid ha0
  have HT0 := Lib.hid hT0
  clear ed hT0 ha0
  clear hpr hpr1 hb01 hF hR hm hRb hFl hn hK hW1 hb1 hrow1 hmk hsp hbsl htl hch hpl hcp hn1 hm8
  go_enter Try.func35, Try.ntmps35
  go_upto_region 3 with fail
  go_still_tail 9, (by kernel_rfl)
  change wpList _ _ _ _ _ (w.drewN 1)
  go_upto_region 4 with fail
  clear c257 hmk2 e1
  go_quiet (fail)
  go_wp2_with fail
  have hn1 := HN1.out
  have ha0 := HA0.out
  have hs1 : ∀ W (l : Nat), l ≤ n → (Instr.slice 23 (.slice (some ⟨w.heap.size, 0, none⟩) n n1) (some (.int .i64 (l : Int))) none none).run Try.prog W = .ok (.slice (some ⟨w.heap.size, l, none⟩) (n - l) (n1 - l)) W := fun W l hl => by
    have := run_cutR (P := Try.prog) W 23 5 Try.underlying23 (fun w => by kernel_rfl) (some ⟨w.heap.size, 0, none⟩) n n1 l hl (by omega)
    rw [cutA_some _ _ _ _ (by omega), Nat.zero_add] at this
    exact this
  have HS1 := Lib.hid hs1
  have hs2 := fun W => hs1 W a0 (by omega)
  clear hs1
  have hfd : (F.drop (256 * K)).length = n - a0 := by rw [List.length_drop, HN.out, ha0]
  have HBD : Hid (Below w.heap.size w (W1.drewN nq).drew) := Lib.hid (below_drewN (below_drewN HB1.out nq) 1)
  have HRD : Hid ((W1.drewN nq).drew.heap[w.heap.size]? = some (.cells (u8s (List.replicate (F.length + 1) 0)).toArray 5 (0, 0))) := Lib.hid (by rw [HN.out]; exact HROW.out)
  obtain ⟨cs, hcs⟩ : ∃ cs, u8s (F.drop (256 * K)) = cs := ⟨_, rfl⟩
  have hcl : cs.length = n - a0 := by rw [← hcs]; simp only [u8s, List.length_map]; exact hfd
  have HCN : Hid (cs.length = Nat.min 256 (n - a0)) := Lib.hid (by rw [hcl]; simp only [Nat.min_def]; split <;> omega)
  have HSRC : Hid (∀ j v, cs[j]? = some v → (W1.drewN nq).drew.cell? ((⟨g, 1, none⟩ : Addr).add j) = some v) := Lib.hid fun j v hj => by
    have hlt : j < cs.length := (List.getElem?_eq_some_iff.1 hj).1
    rw [Addr.add_mid]
    have := HCP.out j (by omega)
    refine Eq.trans this ?_
    rw [← hj, ← hcs, u8s, List.getElem?_map, ← HTL.out]
    simp [List.getD, show j < n - 256 * K by omega, show j < part.length by rw [HPL.out]; omega]
  have HFIT : Hid (a0 + cs.length ≤ (u8s (List.replicate (F.length + 1) 0)).length) := Lib.hid (by rw [hcl]; simp only [u8s, List.length_map, List.length_replicate, HN.out]; omega)
  have HONE : Hid (∀ u ∈ cs, u.oneCell' = true) := Lib.hid fun u hu => by
    rw [← hcs] at hu
    obtain ⟨y, _, rfl⟩ := List.mem_map.1 hu
    rfl
  have HGL : Hid (goInt cs.length = .int .i64 ((n - a0 : Nat) : Int)) := Lib.hid (by rw [hcl]; rfl)
  have HSPL : Hid (splice (u8s (List.replicate (F.length + 1) 0)) a0 cs = u8s (rowZ F K)) := Lib.hid (by rw [← hcs, ← ha0]; exact rowZ_first F K (by rw [HN.out]; exact hKb))
  clear hfd hcs hcl hn1 ha0
  go_region_law (refine step_copy_splice rfl (.tmp 30) (.tmp 34) 23 23 rfl 5 Try.underlying23 (by kernel_rfl) (some ⟨w.heap.size, a0, none⟩) (some ⟨g, 1, none⟩) (n - a0) (n1 - a0) 256 256 (by simp [Act.eval, Act.put]) (by simp [Act.eval, Act.put]) w.heap.size a0 _ 5 HRD.out cs HCN.out (fun _ => ⟨rfl, _, rfl, HSRC.out⟩) HFIT.out HONE.out w.heap.size w HBD.out (Nat.le_refl _) ?_; intro W3 hW3 hB3; rw [HGL.out]; have HB3 := Lib.hid hB3; clear hB3)
  all_goals
    have hp3 := (HPR.out.more HB3.out)
    have m0 := hp3.c0
    have hrow3 := hW3.out
    rw [HSPL.out] at hrow3
    have HR3 := Lib.hid hrow3
    have HST : Hid (Chain w bs p (F.take (256 * K)) ∧ bs.length = K ∧ ∀ b, b ∈ bs → b < w.heap.size) := Lib.hid ⟨HCH.out, by have := HPR.out.bl; rw [HN.out] at this; have := HK.out; omega, fun b hb => (HPR.out.ne b hb).2⟩
    have HA0C : Hid ((a0 : Int) = ((256 * K : Nat) : Int)) := Lib.hid (by rw [HA0.out])
    clear hp3 hrow3 hW3 HSPL HGL HONE HFIT HSRC HCN HRD HBD hs2 em1 em2 em3 em4 em5 em6 hT256 d257 d258 d259 d0
    go_upto_region 7 with fail
    clear m0
    go_loopw [4, 5] (fun av pv wr => ∃ (k : Nat) (bsk : List Nat), 256 * k ≤ n ∧ av = .int .i64 ((256 * k : Nat) : Int) ∧ Hid (Chain w bsk pv (F.take (256 * k)) ∧ bsk.length = k ∧ ∀ b, b ∈ bsk → b < w.heap.size) ∧ Hid (wr.heap[w.heap.size]? = some (.cells (u8s (rowZ F k)).toArray 5 (0, 0))) ∧ Hid (Below w.heap.size w wr)) (fun av _ _ => (intOf av).toNat)
    case atStart => exact ⟨K, bs, hKb, by rw [HA0C.out], HST, HR3, HB3⟩
    case round =>
      obtain ⟨k, bsk, hk, rfl, HC, HR, HB⟩ := hrel
      cases bsk with
      | nil =>
        obtain ⟨hc1, hc2, _⟩ := HC.out
        obtain ⟨rfl, _⟩ := hc1
        have hk0 : k = 0 := by simpa using hc2.symm
        subst hk0
        have hrow := HR.out
        rw [rowZ_zero] at hrow
        have hmine : Mine wr w.heap.size (.slice (some ⟨w.heap.size, 0, none⟩) n n1) n F := by
          refine ⟨⟨by simp [HN.out], .inr ⟨w.heap.size, n1, _, rfl, Nat.le_refl _, hrow, by have := HN1.out; omega, by have := HN1.out; unfold maxLen; omega, by simp [u8s, HN.out, HN1.out], ?_⟩⟩, HRNG.out⟩
          simp [u8s, HN.out]
        have hp3 := HPR.out.more HB.out
        have d258 := hp3.c258
        have d259 := hp3.c259
        have HMI := Lib.hid hmine
        have HB4 := HB
        clear hc2 hrow hmine hp3 HC HR
        by_cases hm0 : m = 0
        · have hpk : pack L = F := by rw [HSP.out, if_pos hm0, List.append_nil]
          have HPK := Lib.hid hpk
          have t0 : ¬ (0 : Int) < m := by omega
          clear hm0 hpk
          go_wp2_with fail
          go_ret
          refine ⟨_, rfl, ?_, HB4.out⟩
          rw [HPK.out]
          exact HMI.out.cast
        · have hpk : pack L = F ++ [R] := by rw [HSP.out, if_neg hm0]
          have HPK := Lib.hid hpk
          have t0 : (0 : Int) < m := by omega
          have hR0 := HR0.out
          have hwR : IntKind.u8.wrap R = R := by rw [IntKind.wrap_u8]; omega
          have HAP := Lib.hid ((HMI.out.kept ((Below.refl _ _).alloc (Nat.le_refl _) (.cells #[.int .u8 R] 5))).append (byt_lit0 wr R (by omega)) 23 (by omega) (Nat.le_trans HB4.out.size (by simp)))
          clear hm0 hpk
          go_wp2_with (at_builtin; obtain ⟨v6, w6, hrun, hm6, hb6⟩ := HAP.out; obtain ⟨A6, c6, rfl, _⟩ := hm6.byt; refine Lib.wpList_append_run_sl _ rfl (.tmp 61) (.tmp 67) 23 rfl _ _ rfl rfl hrun ?_; clear hrun; have HM6 := Lib.hid hm6; have HB6 := Lib.hid ((HB4.out.alloc HB4.out.size _).trans hb6); clear hm6 hb6)
          go_ret
          refine ⟨_, rfl, ?_, HB6.out⟩
          rw [HPK.out]
          exact HM6.out.cast
      | cons b bsk =>
        obtain ⟨hc1, hc2, hc3⟩ := HC.out
        obtain ⟨rfl, p', ys, xs, hys, hxl, hbk, hch⟩ := hc1
        obtain ⟨k, rfl⟩ : ∃ j, k = j + 1 := ⟨k - 1, by simp at hc2; omega⟩
        have hblt := hc3 b (List.mem_cons_self ..)
        have hbw : wr.heap[b]? = _ := (HB.out.block b hblt).trans hbk
        have hbl : bsk.length = k := by simpa using hc2
        have hyl : ys.length = 256 * k := by rw [hch.len, hbl]
        have hys2 : F.take (256 * k) = ys := by
          have h1 : F.take (256 * k) = (F.take (256 * (k + 1))).take (256 * k) := by rw [List.take_take, Nat.min_eq_left (by omega)]
          rw [h1, hys, ← hyl, List.take_left]
        have hxs2 : (F.drop (256 * k)).take 256 = xs := by
          have h1 : (F.drop (256 * k)).take 256 = (F.take (256 * (k + 1))).drop (256 * k) := by rw [List.drop_take, show 256 * (k + 1) - 256 * k = 256 by omega]
          rw [h1, hys, ← hyl, List.drop_left]
        have HST2 : Hid (Chain w bsk p' (F.take (256 * k)) ∧ bsk.length = k ∧ ∀ b, b ∈ bsk → b < w.heap.size) := Lib.hid ⟨by rw [hys2]; exact hch, hbl, fun c hc => hc3 c (List.mem_cons_of_mem _ hc)⟩
        obtain ⟨A1, hA1⟩ : ∃ A1, 256 * (k + 1) = A1 := ⟨_, rfl⟩
        obtain ⟨A2, hA2⟩ : ∃ A2, 256 * k = A2 := ⟨_, rfl⟩
        rw [hA1]
        have eA : (A1 : Int) - 256 = A2 := by omega
        have hA1n : (A1 : Int) ≤ 100000000 := by omega
        have hA2n : A2 + 256 ≤ n := by omega
        have hs2 := fun W => HS1.out W A2 (by omega)
        have hbp := cell_of_row wr b 0 _ _ _ hbw
        have HBP : Hid (∀ W, Below w.heap.size w W → W.cell? ⟨b, 0, none⟩ = some p') := Lib.hid fun W hW => by
          rw [cell_of_row W b 0 _ _ _ ((hW.block b hblt).trans hbk)]; rfl
        have hn1 := HN1.out
        have HBD : Hid (Below w.heap.size w wr.drew) := Lib.hid (below_drewN HB.out 1)
        have HRD : Hid (wr.drew.heap[w.heap.size]? = some (.cells (u8s (rowZ F (k + 1))).toArray 5 (0, 0))) := HR
        obtain ⟨cs, hcs⟩ : ∃ cs, u8s xs = cs := ⟨_, rfl⟩
        have hcl : cs.length = 256 := by rw [← hcs]; simp only [u8s, List.length_map]; exact hxl
        have HCN : Hid (cs.length = Nat.min 256 (n - A2)) := Lib.hid (by rw [hcl]; simp only [Nat.min_def]; split <;> omega)
        have HSRC : Hid (∀ j v, cs[j]? = some v → wr.drew.cell? ((⟨b, 1, none⟩ : Addr).add j) = some v) := Lib.hid fun j v hj => by
          have hlt : j < cs.length := (List.getElem?_eq_some_iff.1 hj).1
          rw [Addr.add_mid]
          show wr.cell? ⟨b, 1 + j, none⟩ = some v
          rw [cell_of_row wr b (1 + j) _ _ _ hbw, Nat.add_comm 1 j, hcs]
          simpa using hj
        have HFIT : Hid (A2 + cs.length ≤ (u8s (rowZ F (k + 1))).length) := Lib.hid (by rw [hcl]; simp only [u8s, List.length_map]; rw [rowZ_len F (k + 1) (by rw [HN.out]; omega), HN.out]; omega)
        have HONE : Hid (∀ u ∈ cs, u.oneCell' = true) := Lib.hid fun u hu => by
          rw [← hcs] at hu
          obtain ⟨y, _, rfl⟩ := List.mem_map.1 hu
          rfl
        have HGL : Hid (goInt cs.length = .int .i64 256) := Lib.hid (by rw [hcl]; rfl)
        have HSPL : Hid (splice (u8s (rowZ F (k + 1))) A2 cs = u8s (rowZ F k)) := Lib.hid (by rw [← hcs, ← hA2]; exact rowZ_next F xs k (by rw [HN.out]; omega) hxs2)
        have HA2 := Lib.hid hA2
        have HKN : Hid (256 * k ≤ n ∧ A2 < A1) := Lib.hid (by omega)
        clear hc2 hc3 hys hxl hbk hch hbw hbl hyl hys2 hxs2 hA1 hA2 hbp hcs hcl hn1 hk HC HR
        go_upto_region 10 with fail
        go_region_law (refine step_copy_splice rfl (.tmp 50) (.tmp 54) 23 23 rfl 5 Try.underlying23 (by kernel_rfl) (some ⟨w.heap.size, A2, none⟩) (some ⟨b, 1, none⟩) (n - A2) (n1 - A2) 256 256 (by simp [Act.eval, Act.put]) (by simp [Act.eval, Act.put]) w.heap.size A2 _ 5 HRD.out cs HCN.out (fun _ => ⟨rfl, _, rfl, HSRC.out⟩) HFIT.out HONE.out w.heap.size w HBD.out (Nat.le_refl _) ?_; intro W4 hW4 hB4; rw [HGL.out]; have HB4 := Lib.hid hB4; clear hB4)
        all_goals
          have hbp := HBP.out W4 HB4.out
          have hr4 := hW4.out
          rw [HSPL.out] at hr4
          have HR4 := Lib.hid hr4
          clear hr4 hW4 hs2
          go_wp2_with fail
          go_roundw
          case rel => exact ⟨k, bsk, HKN.out.1, by rw [HA2.out], HST2, HR4, HB4⟩
          case measure => have := HKN.out.2; simp [intOf]; omega
end Go.Proofs.Ytpnnejedfccckaa
