/- Contracts of functions that the law calls, and what they lean on (a part). -/
import Derived.Lib.Bytealg
import Derived.Test.YtliieeagbpmcgaaDoorPu25
namespace Go.Proofs.YtliieeagbpmcgaaDoor
section
open Go.RowKit
set_option linter.unusedVariables false
set_option maxRecDepth 100000
theorem Mine.cast13 {w : World} {base p : Nat} {v : Value} {zs : List Int} (h : Mine w base v p zs) : Mine w base v zs.length zs := by rw [h.len]; exact h
theorem Mine.put13 {w : World} {base p : Nat} {v : Value} {zs : List Int} (h : Mine w base v p zs) (hp : 0 < p) : ∃ b c, v = .slice (some ⟨b, 0, none⟩) p c ∧ base ≤ b ∧ b < w.heap.size ∧ p ≤ c := by
  rcases h.own.2 with ⟨rfl, h0⟩ | ⟨b, cap, cur, rfl, hb, hh, hnc, _⟩
  · omega
  · exact ⟨b, cap, rfl, hb, h.lt b rfl, hnc⟩
theorem strOf_strZ13 (s : ByteArray) : strOfNums (strZ s) = s := by
  apply ByteArray.ext
  rw [← Array.toList_inj, strOfNums_data]
  unfold strZ
  rw [List.map_map]
  refine (List.map_congr_left fun z hz => ?_).trans (List.map_id _)
  simp
theorem sidxB (s : ByteArray) (c : Int) (w : World) : Calls Tryd.prog 69 #[.string s, .int .u8 c] w fun e w' => e = .returned (.int .i64 (Lib.indexByte s.data.toList c.toNat.toUInt8)) ∧ w = w' := by
  go_enter Tryd.func69, Tryd.ntmps69
  go_wp2
  rw [run_callFunc_extern Tryd.func77 (by kernel_rfl) (by kernel_rfl) (by kernel_rfl) (e := Extern.BytealgIndexByte.indexByte) (by kernel_rfl), Lib.run_indexByteString]
  simp only [Result.andThen]
  rw [Oper.upon_value]
  go_wp2
  go_ret
  exact ⟨rfl, rfl⟩
theorem idxB (s : ByteArray) (c : Int) (w : World) : Calls Tryd.prog 59 #[.string s, .int .u8 c] w fun e w' => e = .returned (.int .i64 (Lib.indexByte s.data.toList c.toNat.toUInt8)) ∧ w = w' := by
  go_enter Tryd.func59, Tryd.ntmps59
  go_wp2_with (go_at_call 69; refine (sidxB _ _ _).mono ?_; (rintro e w' ⟨rfl, rfl⟩))
  go_ret
  exact ⟨rfl, rfl⟩
def dlS : ByteArray := ⟨#[40, 41, 60, 62, 91, 93, 123, 125, 47, 37, 35]⟩
theorem plB_nat : ∀ n : Nat, n < 256 → plB (n : Int) = (decide ((n : Int) > 32) && decide ((n : Int) < 127) && decide (Lib.indexByte dlS.data.toList n.toUInt8 < 0)) := by decide +kernel
theorem visC (z : Int) (w : World) : Calls Tryd.prog 57 #[.int .u8 z] w fun e w' => e = .returned (.bool (decide (z > 32) && decide (z < 127))) ∧ w = w' := by
  by_cases h1 : z > 32
  · by_cases h2 : z < 127
    · rw [decide_eq_true h1, decide_eq_true h2]
      go_enter Tryd.func57, Tryd.ntmps57
      go_wp2
      go_ret
      exact ⟨rfl, rfl⟩
    · rw [decide_eq_true h1, decide_eq_false h2]
      go_enter Tryd.func57, Tryd.ntmps57
      go_wp2
      go_ret
      exact ⟨rfl, rfl⟩
  · rw [decide_eq_false h1]
    go_enter Tryd.func57, Tryd.ntmps57
    go_wp2
    go_ret
    exact ⟨rfl, rfl⟩
theorem ppl (z : Int) (w : World) (hz : 0 ≤ z ∧ z < 256) : Calls Tryd.prog 43 #[.int .u8 z] w fun e w' => e = .returned (.bool (plB z)) ∧ w = w' := by
  have hk := plB_nat z.toNat (by omega)
  rw [show ((z.toNat : Nat) : Int) = z by omega] at hk
  obtain ⟨I, hI⟩ : ∃ I, Lib.indexByte dlS.data.toList z.toNat.toUInt8 = I := ⟨_, rfl⟩
  have HI := Lib.hid (fun W => hI ▸ idxB dlS z W)
  obtain ⟨B, hB⟩ : ∃ B, (decide (z > 32) && decide (z < 127)) = B := ⟨_, rfl⟩
  have HV := Lib.hid (fun W => hB ▸ visC z W)
  rw [hI, hB] at hk
  rw [hk]
  unfold dlS at HI
  clear hk hI hB
  cases B
  · go_enter Tryd.func43, Tryd.ntmps43
    go_wp2_with (go_at_call 57; refine (HV.out _).mono ?_; (rintro e w' ⟨rfl, rfl⟩))
    go_ret
    exact ⟨rfl, rfl⟩
  · go_enter Tryd.func43, Tryd.ntmps43
    go_wp2_with (first
      | (go_at_call 57; refine (HV.out _).mono ?_; (rintro e w' ⟨rfl, rfl⟩))
      | (go_at_call 59; refine (HI.out _).mono ?_; (rintro e w' ⟨rfl, rfl⟩)))
    go_ret
    exact ⟨by simp, rfl⟩
theorem phidC (z : Int) (w : World) (hz : 0 ≤ z ∧ z < 256) : Calls Tryd.prog 41 #[.int .u8 z] w fun e w' => e = .returned (.bool (!(txB z))) ∧ w = w' := by
  obtain ⟨B, hB⟩ : ∃ B, (decide (z > 32) && decide (z < 127)) = B := ⟨_, rfl⟩
  have HV := Lib.hid (fun W => hB ▸ visC z W)
  by_cases h0 : z = 32
  · subst h0
    go_enter Tryd.func41, Tryd.ntmps41
    go_wp2_with fail
    go_ret
    exact ⟨rfl, rfl⟩
  have b0 : (z != 32) = true := by simpa using h0
  cases B
  · have e : txB z = false := by
      unfold txB
      simp at hB ⊢
      omega
    rw [e]
    clear hB
    go_enter Tryd.func41, Tryd.ntmps41
    go_wp2_with (go_at_call 57; refine (HV.out _).mono ?_; (rintro e w' ⟨rfl, rfl⟩))
    go_ret
    exact ⟨rfl, rfl⟩
  simp at hB
  obtain ⟨h32, h127⟩ := hB
  by_cases h1 : z = 40
  · subst h1
    go_enter Tryd.func41, Tryd.ntmps41
    go_wp2_with (go_at_call 57; refine (HV.out _).mono ?_; (rintro e w' ⟨rfl, rfl⟩))
    go_ret
    exact ⟨rfl, rfl⟩
  have b1 : (z == 40) = false := by simpa using h1
  by_cases h2 : z = 41
  · subst h2
    go_enter Tryd.func41, Tryd.ntmps41
    go_wp2_with (go_at_call 57; refine (HV.out _).mono ?_; (rintro e w' ⟨rfl, rfl⟩))
    go_ret
    exact ⟨rfl, rfl⟩
  have b2 : (z == 41) = false := by simpa using h2
  have e : (!(txB z)) = (z == 92) := by
    unfold txB
    rw [decide_eq_true (by omega : 32 ≤ z), decide_eq_true (by omega : z ≤ 126), b1, b2]
    simp
  rw [e]
  clear e h1 h2
  go_enter Tryd.func41, Tryd.ntmps41
  go_wp2_with (go_at_call 57; refine (HV.out _).mono ?_; (rintro e w' ⟨rfl, rfl⟩))
  go_ret
  exact ⟨rfl, rfl⟩
theorem pcut_low (b L c k : Nat) (hk : k < L) (hc : L ≤ c) : ∀ W, (Instr.slice 22 (.slice (some ⟨b, 0, none⟩) L c) none (some (.int .i64 (k : Int))) none).run Tryd.prog W = .ok (.slice (some ⟨b, 0, none⟩) k c) W := fun W => by
  have := run_cut0 (P := Tryd.prog) W 22 5 Tryd.underlying22 (fun w => by kernel_rfl) (some ⟨b, 0, none⟩) L c k (by omega)
  rw [cutA_some _ _ _ _ (by omega)] at this
  exact this
/-- Two digits for each byte: in new memory. -/
theorem pdigC (A : Option Addr) (n c : Nat) (zs : List Int) (w : World) (hb : Byt w w.heap.size A n c zs) (hn : n ≤ 100000) :
    Calls Tryd.prog 42 #[.slice A n c] w fun r w' => ∃ b c', r = .returned (.slice (some ⟨b, 0, none⟩) (2 * n) c') ∧ Byt w' w'.heap.size (some ⟨b, 0, none⟩) (2 * n) c' (hxB zs) ∧ w.heap.size ≤ b ∧ Below w.heap.size w w' := by
  have HX := Lib.hid (pHex A n c zs w hb hn)
  have HLN := Lib.hid hb.len
  clear hb
  go_enter Tryd.func42, Tryd.ntmps42
  go_wp2_with (go_at_call 58; refine HX.out.mono ?_; (rintro r w2 ⟨v2, rfl, hm2, hb2⟩); have hl2 : (hexS zs).length = 2 * n + 1 := (by unfold hexS; rw [List.length_append, hxB_len, HLN.out]; rfl); rw [hl2] at hm2; obtain ⟨b2, c2, rfl, hbb, hlt, hcp⟩ := hm2.put13 (by omega); have HM2 := Lib.hid hm2; have HB2 := Lib.hid hb2; have hcut := pcut_low b2 (2 * n + 1) c2 (2 * n) (by omega) hcp; have hwr : IntKind.i64.wrap ((((2 * n + 1 : Nat) : Nat) : Int) - 1) = ((2 * n : Nat) : Int) := (by rw [IntWalk.i64_in _ (by omega)]; omega); clear hm2 hb2 hl2)
  go_ret
  obtain ⟨A3, c3, e3, hy⟩ := HM2.out.byt
  injection e3 with e3a e3b e3c
  subst e3a e3c
  refine ⟨b2, c2, rfl, ⟨by rw [hxB_len, HLN.out], by omega, fun z hz => hy.rng z (by unfold hexS; exact List.mem_append_left _ hz), fun h0 => ⟨b2, 0, rfl, hlt, fun i hi => ?_⟩⟩, hbb, HB2.out⟩
  obtain ⟨b4, o4, e4, _, hc⟩ := hy.cell (by omega)
  injection e4 with e4
  injection e4 with e4a e4b
  subst e4a e4b
  rw [hc i (by omega)]
  unfold hexS
  have hl : i < (hxB zs).length := by rw [hxB_len, HLN.out]; exact hi
  simp [List.getD, List.getElem?_append, hl]
end

section
open Go.RowKit
set_option linter.unusedVariables false
set_option maxRecDepth 100000
theorem flat1 (p : Pt) : flatP [p] = p.zs := by simp [flatP]
theorem flat2 (p q : Pt) : flatP [p, q] = p.zs ++ q.zs := by simp [flatP]
theorem flat3 (p q r : Pt) : flatP [p, q, r] = p.zs ++ (q.zs ++ r.zs) := by simp [flatP]
/-- Parts handed in as a row that has just been laid. -/
theorem paddN {s : Bool} {w : World} {base p : Nat} {v : Value} {P : List Int} (h : RowB s w base v p P) (hbase : base ≤ w.heap.size) {GA : Nat} (hG : w.heap.size = GA) (ps : List Pt)
    (hc : ∀ q ∈ ps, Byt w w.heap.size q.A q.n q.c q.zs ∧ Off v q.A q.n) (hb : p + (flatP ps).length ≤ 140737488355328) (hl : ps.length ≤ 100) :
    Calls Tryd.prog 26 #[v, .slice (some ⟨GA, 0, none⟩) ps.length ps.length] (w.alloc (.cells (ps.map (fun q => Value.slice q.A q.n q.c)).toArray 22)) fun r w' => ∃ v', r = .returned v' ∧ RowB s w' base v' (p + (flatP ps).length) (P ++ flatP ps) ∧ KeepX v w v' w' := by
  subst hG
  have hb1 := (Below.refl w.heap.size w).alloc (Nat.le_refl _) (.cells (ps.map (fun q => Value.slice q.A q.n q.c)).toArray 22)
  refine (paddB (h.kept hb1) (Nat.le_trans hbase hb1.size) ps w.heap.size 0 ps.length (by simp) (fun e => by have := h.lt _ e; omega) (fun i q hq => ?_) hb hl).mono ?_
  · obtain ⟨h1, h2⟩ := hc q (List.mem_of_getElem? hq)
    refine ⟨?_, (h1.below hb1 (Nat.le_refl _)).more hb1.size, h2⟩
    rw [World.cell?_alloc_new, Nat.zero_add]
    simp [hq]
  · rintro r w' ⟨v', rfl, hm, hk⟩
    exact ⟨v', rfl, hm, hk.start hb1⟩
set_option maxHeartbeats 4000000 in
theorem pNm (S : ByteArray) (w : World) (hn : S.size ≤ 1000) :
    Calls Tryd.prog 28 #[.string S] w fun r w' => ∃ v, r = .returned v ∧ RowB true w' w.heap.size v (47 :: nmS (strZ S)).length (47 :: nmS (strZ S)) ∧ Below w.heap.size w w' := by
  have hz := strZ_rng S
  have hzl := strZ_len S
  have hcv := fun W => str_bytes6 (strZ S) hz W
  rw [strOf_strZ13] at hcv
  obtain ⟨zs, hzs⟩ : ∃ zs, strZ S = zs := ⟨_, rfl⟩
  rw [hzs] at hz hzl hcv ⊢
  have HZ := Lib.hid hz
  have hb1 := (Below.refl w.heap.size w).alloc (Nat.le_refl _) (.cells #[.int .u8 47] 5 (1, 2))
  have hm1 := RowB.lit w w.heap.size (Nat.le_refl _) (1, 2) [47] (by decide) 1 rfl (by omega) #[.int .u8 47] rfl
  obtain ⟨c2, W2, hcv2, hy2, hb2⟩ := hcv (w.alloc (.cells #[.int .u8 47] 5 (1, 2)))
  rw [hzl] at hcv2 hy2
  have HM1 := Lib.hid (hm1.kept hb2)
  have HB1 := Lib.hid (hb1.trans (hb2.mono (by simp)))
  have HY := Lib.hid hy2
  have HL := Lib.hid hzl
  have HGB : Hid ((w.alloc (.cells #[.int .u8 47] 5 (1, 2))).heap.size = w.heap.size + 1) := Lib.hid (by simp)
  obtain ⟨GB, hGB⟩ : ∃ GB, (w.alloc (.cells #[.int .u8 47] 5 (1, 2))).heap.size = GB := ⟨_, rfl⟩
  rw [hGB] at hcv2 HY HGB
  have HGL : Hid (0 < S.size → GB < W2.heap.size) := Lib.hid (fun h0 => by
    obtain ⟨b, o, e, hlt, _⟩ := HY.out.cell h0
    injection e with e
    injection e with e
    omega)
  clear hz hzl hzs hb1 hm1 hb2 hy2 hcv hGB
  have kc := fun (w : World) (C : Array Value) (n c : Nat) => Lib.run_convert_bytes_const (P := Tryd.prog) w 22 5 C n c Tryd.underlying22 Tryd.underlying5
  go_enter Tryd.func28, Tryd.ntmps28
  go_wp2_with fail
  go_loopw [3, 5, 11] (fun s3 s5 s11 wr => ∃ (k : Nat), k ≤ S.size ∧ s11 = .int .i64 k ∧ Hid (RowB true wr w.heap.size s3 (47 :: nmS (zs.take k)).length (47 :: nmS (zs.take k))) ∧ Hid (Below w.heap.size w wr) ∧ Hid (W2.heap.size ≤ wr.heap.size ∧ wr.heap[GB]? = W2.heap[GB]? ∧ s3.ownBlock ≠ some GB)) (fun _ _ s11 _ => S.size - (intOf s11).toNat)
  case atStart => exact ⟨0, Nat.zero_le _, rfl, HM1, HB1, Lib.hid ⟨Nat.le_refl _, rfl, fun e => by have h0 := HGB.out; injection e with e; dsimp only at e; omega⟩⟩
  case round =>
    obtain ⟨k, hk, rfl, HMR, HBE, HKP⟩ := hrel
    obtain ⟨A3, c3, hv3, _⟩ := HMR.out.byt
    subst hv3
    by_cases hlt : k < S.size
    · have hzz0 := HZ.out
      have hts := take_snocZ zs k (by rw [HL.out]; exact hlt)
      have hzb : 0 ≤ zs.getD k 0 ∧ zs.getD k 0 < 256 := by
        have hkl : k < zs.length := by rw [HL.out]; exact hlt
        rw [getD_eq zs k hkl]
        exact hzz0 _ (List.getElem_mem hkl)
      obtain ⟨b9, o9, e9, _, hc9⟩ := HY.out.cell (by omega)
      have ck := hc9 k hlt
      injection e9 with e9
      injection e9 with e9a e9b
      subst e9a e9b
      have ck2 := (World.cell?_of_block (a := ⟨GB, 0 + k, none⟩) HKP.out.2.1).trans ck
      rw [Nat.zero_add] at ck2
      obtain ⟨z, hzz⟩ : ∃ z, zs.getD k 0 = z := ⟨_, rfl⟩
      rw [hzz] at ck2 hts hzb
      have hlen := nmS_len (zs.take k)
      have hlen2 : (zs.take k).length ≤ 1000 := by rw [List.length_take]; omega
      obtain ⟨P, hP⟩ : ∃ P, 47 :: nmS (zs.take k) = P := ⟨_, rfl⟩
      have HLL : Hid (P.length ≤ 5000) := Lib.hid (by rw [← hP, List.length_cons]; omega)
      have HTP : Hid (47 :: nmS (zs.take (k + 1)) = P ++ nmS [z]) := Lib.hid (by rw [hts, nmS_app, ← hP]; rfl)
      rw [hP] at HMR HKP ⊢
      have HPL := Lib.hid (fun W => ppl z W hzb)
      have HZB := Lib.hid hzb
      have HGW : Hid (GB < wr.heap.size) := Lib.hid (Nat.lt_of_lt_of_le (HGL.out (by omega)) HKP.out.1)
      clear hts hzz hzz0 hlen hlen2 hP ck hc9 hzb
      rcases hpb : plB z with _ | _
      · rw [hpb] at HPL
        have HTS : Hid (47 :: nmS (zs.take (k + 1)) = P ++ ([35] ++ [hxD (z / 16), hxD (z % 16)])) := Lib.hid (by rw [HTP.out, nmS, if_neg (by rw [hpb]; decide)]; rfl)
        have HB35 := Lib.hid ((Below.refl wr.heap.size wr).alloc (Nat.le_refl _) (.cells #[.int .u8 35] 5 (1, 2)))
        have HY35 := Lib.hid (byt_lit wr (1, 2) [35] (by decide) 1 rfl #[.int .u8 35] rfl)
        have HBZ := Lib.hid ((Below.refl (wr.alloc (.cells #[.int .u8 35] 5 (1, 2))).heap.size (wr.alloc (.cells #[.int .u8 35] 5 (1, 2)))).alloc (Nat.le_refl _) (.cells #[.int .u8 z] 5))
        have HYZ : Hid (Byt ((wr.alloc (.cells #[.int .u8 35] 5 (1, 2))).alloc (.cells #[.int .u8 z] 5)) ((wr.alloc (.cells #[.int .u8 35] 5 (1, 2))).alloc (.cells #[.int .u8 z] 5)).heap.size (some ⟨wr.heap.size + 1, 0, none⟩) 1 1 [z]) := Lib.hid (by
          have h := (byt_lit0 (wr.alloc (.cells #[.int .u8 35] 5 (1, 2))) z HZB.out).more (B' := ((wr.alloc (.cells #[.int .u8 35] 5 (1, 2))).alloc (.cells #[.int .u8 z] 5)).heap.size) (by simp)
          rw [show (wr.alloc (.cells #[.int .u8 35] 5 (1, 2))).heap.size = wr.heap.size + 1 by simp] at h
          exact h)
        have HDG := Lib.hid (pdigC _ 1 1 [z] ((wr.alloc (.cells #[.int .u8 35] 5 (1, 2))).alloc (.cells #[.int .u8 z] 5)) HYZ.out (by omega))
        clear hpb
        go_wp2_with (first
          | (go_at_call 43; refine (HPL.out _).mono ?_; (rintro r w3 ⟨rfl, rfl⟩))
          | (go_at_call 42; refine HDG.out.mono ?_; (rintro r w5 ⟨b5, c5, rfl, hy5, hlo5, hb5⟩); have HB5 := Lib.hid (HB35.out.trans ((HBZ.out.trans (hb5.mono HBZ.out.size)).mono HB35.out.size)); have HM5 := Lib.hid (HMR.out.kept HB5.out); have HY5 := Lib.hid hy5; have HLO5 : Hid (wr.heap.size ≤ b5) := Lib.hid (Nat.le_trans (Nat.le_trans HB35.out.size HBZ.out.size) hlo5); have HAD := Lib.hid (paddN HM5.out (Nat.le_trans HBE.out.size HB5.out.size) rfl [⟨some ⟨wr.heap.size, 0, none⟩, 1, 1, [35]⟩, ⟨some ⟨b5, 0, none⟩, 2, c5, hxB [z]⟩] (fun q hq => by
              rcases List.mem_cons.1 hq with rfl | hq
              · exact ⟨((HY35.out.more (by simp)).below (HBZ.out.trans (hb5.mono HBZ.out.size)) (Nat.le_refl _)).more (Nat.le_trans HBZ.out.size hb5.size), fun _ b o e e2 => by injection e with e; injection e with e _; have := HMR.out.lt _ e2; omega⟩
              · rw [List.mem_singleton] at hq
                subst hq
                exact ⟨HY5.out, fun _ b o e e2 => by injection e with e; injection e with e _; have := HMR.out.lt _ e2; have := HLO5.out; omega⟩) (by rw [flat2]; have := HLL.out; simp [hxB]; omega) (by simp)); clear hy5 hlo5 hb5)
          | (go_at_call 26; refine HAD.out.mono ?_; (rintro r w6 ⟨v6, rfl, hm6, hk6⟩); have HM6 := Lib.hid hm6; have HK6 := Lib.hid hk6; clear hm6 hk6))
        go_roundw
        case rel =>
          refine ⟨k + 1, hlt, by go_num, Lib.hid ?_, Lib.hid (HBE.out.trans (HB5.out.mono HBE.out.size |>.trans (HK6.out.below (Nat.le_trans HBE.out.size HB5.out.size) HM5.out.owned))), Lib.hid ⟨Nat.le_trans HKP.out.1 (Nat.le_trans HB5.out.size HK6.out.size), ?_, fun e => ?_⟩⟩
          · rw [HTS.out]
            have h6 := HM6.out
            rw [flat2] at h6
            exact h6.cast
          · exact (HK6.out.block GB (Nat.lt_of_lt_of_le HGW.out HB5.out.size) HKP.out.2.2).trans ((HB5.out.block GB HGW.out).trans HKP.out.2.1)
          · rcases HK6.out.own GB e with h | h
            · exact HKP.out.2.2 h
            · have := HGW.out; have := HB5.out.size; omega
        case measure => simp [intOf]; omega
      · rw [hpb] at HPL
        have HTS : Hid (47 :: nmS (zs.take (k + 1)) = P ++ [z]) := Lib.hid (by rw [HTP.out, nmS, if_pos hpb]; rfl)
        have HB5 := Lib.hid ((Below.refl wr.heap.size wr).alloc (Nat.le_refl _) (.cells #[.int .u8 z] 5))
        have HM5 := Lib.hid (HMR.out.kept HB5.out)
        have HA1 := Lib.hid (HM5.out.appendX (byt_lit0 wr z HZB.out) (by have := HLL.out; omega) (Nat.le_trans HBE.out.size HB5.out.size))
        clear hpb
        go_wp2_with (first
          | (go_at_call 43; refine (HPL.out _).mono ?_; (rintro r w3 ⟨rfl, rfl⟩))
          | (at_builtin; obtain ⟨v6, w6, hrun, hm6, hk6⟩ := HA1.out; obtain ⟨A6, c6, hv6, _⟩ := hm6.byt; subst hv6; refine Lib.wpList_append_run_sl _ rfl (.tmp 17) (.tmp 19) 22 rfl _ _ rfl rfl hrun ?_; clear hrun; have HM6 := Lib.hid hm6; have HK6 := Lib.hid hk6; clear hm6 hk6))
        go_roundw
        case rel =>
          refine ⟨k + 1, hlt, by go_num, Lib.hid ?_, Lib.hid (HBE.out.trans (HB5.out.mono HBE.out.size |>.trans (HK6.out.below (Nat.le_trans HBE.out.size HB5.out.size) HM5.out.owned))), Lib.hid ⟨Nat.le_trans HKP.out.1 (Nat.le_trans HB5.out.size HK6.out.size), ?_, fun e => ?_⟩⟩
          · rw [HTS.out]
            exact HM6.out.cast
          · exact (HK6.out.block GB (Nat.lt_of_lt_of_le HGW.out HB5.out.size) HKP.out.2.2).trans ((HB5.out.block GB HGW.out).trans HKP.out.2.1)
          · rcases HK6.out.own GB e with h | h
            · exact HKP.out.2.2 h
            · have := HGW.out; have := HB5.out.size; omega
        case measure => simp [intOf]; omega
    · obtain rfl : k = S.size := by omega
      have HTK : Hid (zs.take S.size = zs) := Lib.hid (List.take_of_length_le (by rw [HL.out]; exact Nat.le_refl _))
      rw [HTK.out] at HMR ⊢
      go_wp2_with fail
      go_ret
      exact ⟨_, rfl, HMR.out, HBE.out⟩
end

section
open Go.RowKit
set_option linter.unusedVariables false
set_option maxRecDepth 100000
theorem idxF (A : Option Addr) (n c : Nat) (zs : List Int) (w : World) (hb : Byt w w.heap.size A n c zs) (hn : n ≤ 9223372036854775807) :
    Calls Tryd.prog 56 #[.slice A n c, .func (.func 41) #[] #[]] w fun r w' => (∃ z, r = .returned (.int .i64 z) ∧ decide (0 ≤ z) = !(zs.all txB)) ∧ w = w' := by
  have HB := Lib.hid hb
  have HL := Lib.hid hb.len
  clear hb
  go_enter Tryd.func56, Tryd.ntmps56
  go_wp2_with fail
  go_loopw [5, 8] (fun s5 s8 wr => ∃ (k : Nat), k ≤ n ∧ s8 = .int .i64 k ∧ Hid ((zs.take k).all txB = true) ∧ wr = w) (fun _ s8 _ => n - (intOf s8).toNat)
  case atStart => exact ⟨0, Nat.zero_le _, rfl, Lib.hid rfl, rfl⟩
  case round =>
    obtain ⟨k, hk, rfl, HA, rfl⟩ := hrel
    by_cases hlt : k < n
    · have hz := HB.out.getD k
      obtain ⟨b, o, rfl, _, hc⟩ := HB.out.cell (by omega)
      have ck := hc k hlt
      have hsn := all_snoc zs k (by rw [HL.out]; exact hlt)
      have hd : zs = zs.take k ++ (zs.getD k 0 :: zs.drop (k + 1)) := by
        have hkl : k < zs.length := by rw [HL.out]; exact hlt
        rw [getD_eq zs k hkl]
        have := List.take_append_drop k zs
        rw [List.drop_eq_getElem_cons hkl] at this
        exact this.symm
      obtain ⟨z, hzz⟩ : ∃ z, zs.getD k 0 = z := ⟨_, rfl⟩
      rw [hzz] at ck hz hsn hd
      have HH := Lib.hid (fun W => phidC z W hz)
      have HD := Lib.hid hd
      have HSN := Lib.hid hsn
      clear hc hz hsn hd hzz
      cases ht : txB z
      · rw [ht] at HH
        have HT := Lib.hid ht
        clear ht
        go_wp2_with (go_at_call 41; refine (HH.out _).mono ?_; (rintro e w' ⟨rfl, rfl⟩))
        go_ret
        refine ⟨⟨(k : Int), rfl, ?_⟩, rfl⟩
        have h0 := congrArg (fun l => l.all txB) HD.out
        simp only [List.all_append, List.all_cons, HT.out, Bool.false_and, Bool.and_false] at h0
        rw [h0, decide_eq_true (by omega)]
        rfl
      · rw [ht] at HH
        have HT := Lib.hid ht
        clear ht
        go_wp2_with (go_at_call 41; refine (HH.out _).mono ?_; (rintro e w' ⟨rfl, rfl⟩))
        go_roundw
        case rel => exact ⟨k + 1, hlt, by go_num, Lib.hid (by rw [HSN.out, HA.out, HT.out]; rfl), by first | rfl | trivial⟩
        case measure => simp [intOf]; omega
    · obtain rfl : k = n := by omega
      clear hlt
      go_wp2_with fail
      go_ret
      refine ⟨⟨-1, rfl, ?_⟩, rfl⟩
      have h := HA.out
      rw [List.take_of_length_le (by rw [HL.out]; exact Nat.le_refl _)] at h
      rw [h]
      rfl
theorem contF (A : Option Addr) (n c : Nat) (zs : List Int) (w : World) (hb : Byt w w.heap.size A n c zs) (hn : n ≤ 9223372036854775807) (B : Bool) (hB : zs.all txB = B) :
    Calls Tryd.prog 40 #[.slice A n c, .func (.func 41) #[] #[]] w fun r w' => r = .returned (.bool (!B)) ∧ w = w' := by
  have H := Lib.hid (hB ▸ idxF A n c zs w hb hn)
  clear hb hB
  go_enter Tryd.func40, Tryd.ntmps40
  go_wp2_with (go_at_call 56; refine H.out.mono ?_; (rintro e w3 ⟨⟨z, rfl, hz⟩, rfl⟩))
  go_ret
  exact ⟨by rw [← hz]; rfl, rfl⟩
/-- The three parts of a string in digits. -/
theorem tx_parts (GA : Nat) {w w5 W : World} {b5 c5 n : Nat} {zs : List Int} (hb5 : Below w.heap.size w w5) (hb : Below w5.heap.size w5 W) (hG : W.heap.size = GA) (hW : W = w5.alloc (.cells #[.int .u8 62] 5 (1, 2))) (h60 : Byt w5 w5.heap.size (some ⟨w.heap.size, 0, none⟩) 1 1 [60]) (hy5 : Byt w5 w5.heap.size (some ⟨b5, 0, none⟩) (2 * n) c5 (hxB zs)) (hl : zs.length = n) (hn : n ≤ 100000) :
    Calls Tryd.prog 26 #[.slice none 0 0, .slice (some ⟨GA, 0, none⟩) 3 3] (W.alloc (.cells #[.slice (some ⟨w.heap.size, 0, none⟩) 1 1, .slice (some ⟨b5, 0, none⟩) (2 * n) c5, .slice (some ⟨w5.heap.size, 0, none⟩) 1 1] 22)) fun r w' => ∃ v', r = .returned v' ∧ RowB false w' w.heap.size v' (0 + (flatP [⟨some ⟨w.heap.size, 0, none⟩, 1, 1, [60]⟩, ⟨some ⟨b5, 0, none⟩, 2 * n, c5, hxB zs⟩, ⟨some ⟨w5.heap.size, 0, none⟩, 1, 1, [62]⟩]).length) ([] ++ flatP [⟨some ⟨w.heap.size, 0, none⟩, 1, 1, [60]⟩, ⟨some ⟨b5, 0, none⟩, 2 * n, c5, hxB zs⟩, ⟨some ⟨w5.heap.size, 0, none⟩, 1, 1, [62]⟩]) ∧ KeepX (.slice none 0 0) W v' w' := by
  subst hG
  have h62 : Byt W W.heap.size (some ⟨w5.heap.size, 0, none⟩) 1 1 [62] := by rw [hW]; exact lit13 w5 (1, 2) [62] (by decide) #[.int .u8 62] 1 rfl rfl
  refine paddN (s := false) (.inl (Mine.nil W w.heap.size)) (Nat.le_trans hb5.size hb.size) rfl [⟨some ⟨w.heap.size, 0, none⟩, 1, 1, [60]⟩, ⟨some ⟨b5, 0, none⟩, 2 * n, c5, hxB zs⟩, ⟨some ⟨w5.heap.size, 0, none⟩, 1, 1, [62]⟩] (fun q hq => ?_) ?_ (by simp)
  · rcases List.mem_cons.1 hq with rfl | hq
    · exact ⟨(h60.below hb (Nat.le_refl _)).more hb.size, fun _ b o e e2 => by cases e2⟩
    rcases List.mem_cons.1 hq with rfl | hq
    · exact ⟨(hy5.below hb (Nat.le_refl _)).more hb.size, fun _ b o e e2 => by cases e2⟩
    · rw [List.mem_singleton] at hq
      subst hq
      exact ⟨h62, fun _ b o e e2 => by cases e2⟩
  · rw [flat3]
    simp only [List.length_append, List.length_cons, List.length_nil, hxB_len]
    omega
theorem tx_plain (GA : Nat) {w w5 W : World} {A : Option Addr} {n c : Nat} {zs : List Int} (hb5 : Below w.heap.size w w5) (hb : Below w5.heap.size w5 W) (hG : W.heap.size = GA) (hW : W = w5.alloc (.cells #[.int .u8 41] 5 (1, 2))) (h40 : Byt w5 w5.heap.size (some ⟨w.heap.size, 0, none⟩) 1 1 [40]) (hy : Byt w w.heap.size A n c zs) (hn : n ≤ 100000) :
    Calls Tryd.prog 26 #[.slice none 0 0, .slice (some ⟨GA, 0, none⟩) 3 3] (W.alloc (.cells #[.slice (some ⟨w.heap.size, 0, none⟩) 1 1, .slice A n c, .slice (some ⟨w5.heap.size, 0, none⟩) 1 1] 22)) fun r w' => ∃ v', r = .returned v' ∧ RowB false w' w.heap.size v' (0 + (flatP [⟨some ⟨w.heap.size, 0, none⟩, 1, 1, [40]⟩, ⟨A, n, c, zs⟩, ⟨some ⟨w5.heap.size, 0, none⟩, 1, 1, [41]⟩]).length) ([] ++ flatP [⟨some ⟨w.heap.size, 0, none⟩, 1, 1, [40]⟩, ⟨A, n, c, zs⟩, ⟨some ⟨w5.heap.size, 0, none⟩, 1, 1, [41]⟩]) ∧ KeepX (.slice none 0 0) W v' w' := by
  subst hG
  have h62 : Byt W W.heap.size (some ⟨w5.heap.size, 0, none⟩) 1 1 [41] := by rw [hW]; exact lit13 w5 (1, 2) [41] (by decide) #[.int .u8 41] 1 rfl rfl
  have hl := hy.len
  refine paddN (s := false) (.inl (Mine.nil W w.heap.size)) (Nat.le_trans hb5.size hb.size) rfl [⟨some ⟨w.heap.size, 0, none⟩, 1, 1, [40]⟩, ⟨A, n, c, zs⟩, ⟨some ⟨w5.heap.size, 0, none⟩, 1, 1, [41]⟩] (fun q hq => ?_) ?_ (by simp)
  · rcases List.mem_cons.1 hq with rfl | hq
    · exact ⟨(h40.below hb (Nat.le_refl _)).more hb.size, fun _ b o e e2 => by cases e2⟩
    rcases List.mem_cons.1 hq with rfl | hq
    · exact ⟨(hy.below (hb5.trans (hb.mono hb5.size)) (Nat.le_refl _)).more (Nat.le_trans hb5.size hb.size), fun _ b o e e2 => by cases e2⟩
    · rw [List.mem_singleton] at hq
      subst hq
      exact ⟨h62, fun _ b o e e2 => by cases e2⟩
  · rw [flat3]
    simp only [List.length_append, List.length_cons, List.length_nil]
    omega
end

section
open Go.RowKit
set_option linter.unusedVariables false
set_option maxRecDepth 100000
theorem tx_no1 {zs : List Int} (h : zs.all txB = false) : txS zs = 60 :: (hxB zs ++ [62]) := by
  unfold txS
  rw [h]
  simp
theorem tx_no {zs : List Int} (h : zs.all txB = false) : txS zs = [60] ++ (hxB zs ++ [62]) := tx_no1 h
theorem tx_yes1 {zs : List Int} (h : zs.all txB = true) : txS zs = 40 :: (zs ++ [41]) := by
  unfold txS
  rw [h]
  simp
theorem tx_yes {zs : List Int} (h : zs.all txB = true) : txS zs = [40] ++ (zs ++ [41]) := tx_yes1 h
set_option maxHeartbeats 4000000 in
theorem pTx (A : Option Addr) (n c : Nat) (zs : List Int) (w : World) (hb : Byt w w.heap.size A n c zs) (hn : n ≤ 100000) :
    Calls Tryd.prog 27 #[.slice A n c] w fun r w' => ∃ v, r = .returned v ∧ Mine w' w.heap.size v (txS zs).length (txS zs) ∧ Below w.heap.size w w' := by
  have kc := fun (w : World) (C : Array Value) (n c : Nat) => Lib.run_convert_bytes_const (P := Tryd.prog) w 22 5 C n c Tryd.underlying22 Tryd.underlying5
  obtain ⟨B, hB⟩ : ∃ B, zs.all txB = B := ⟨_, rfl⟩
  have HCF := Lib.hid (contF A n c zs w hb (by omega) B hB)
  have HB := Lib.hid hb
  have HL := Lib.hid hb.len
  clear hb
  cases B
  · have HT : Hid (txS zs = [60] ++ (hxB zs ++ [62])) := Lib.hid (tx_no hB)
    have hb60 := (Below.refl w.heap.size w).alloc (Nat.le_refl _) (.cells #[.int .u8 60] 5 (1, 2))
    have hy60 := lit13 w (1, 2) [60] (by decide) #[.int .u8 60] 1 rfl rfl
    have hw6 : (w.alloc (.cells #[.int .u8 60] 5 (1, 2))).heap.size = w.heap.size + 1 := by simp
    have HDG := Lib.hid (pdigC A n c zs (w.alloc (.cells #[.int .u8 60] 5 (1, 2))) ((HB.out.below hb60 (Nat.le_refl _)).more hb60.size) hn)
    have HB60 := Lib.hid hb60
    have HY60 := Lib.hid hy60
    clear hB hb60 hy60 hw6
    go_enter Tryd.func27, Tryd.ntmps27
    go_wp2_with (first
      | (go_at_call 40; refine HCF.out.mono ?_; (rintro r w2 ⟨rfl, rfl⟩))
      | (go_at_call 42; refine HDG.out.mono ?_; (rintro r w5 ⟨b5, c5, rfl, hy5, hlo5, hb5⟩); have HB5 := Lib.hid (HB60.out.trans (hb5.mono HB60.out.size)); have HY5 := Lib.hid hy5; have HY6 := Lib.hid ((HY60.out.below hb5 (Nat.le_refl _)).more hb5.size); clear hy5 hlo5 hb5; have HB62 := Lib.hid ((Below.refl w5.heap.size w5).alloc (Nat.le_refl _) (.cells #[.int .u8 62] 5 (1, 2))))
      | (go_at_call 26; refine (tx_parts (w5.heap.size + 1) (w := w) (w5 := w5) (b5 := b5) (c5 := c5) (W := w5.alloc (.cells #[.int .u8 62] 5 (1, 2))) HB5.out HB62.out (by simp) rfl HY6.out HY5.out HL.out hn).mono ?_; (rintro r w6 ⟨v6, rfl, hm6, hk6⟩); have HM6 := Lib.hid hm6; have HK6 := Lib.hid hk6; clear hm6 hk6))
    go_ret
    refine ⟨_, rfl, ?_, HB5.out.trans ((HB62.out.mono HB5.out.size).trans (HK6.out.below (Nat.le_trans HB5.out.size HB62.out.size) (fun b hb => by cases hb)))⟩
    have h := HM6.out
    rw [flat3] at h
    rw [HT.out]
    exact h.mine.cast13
  · have HT : Hid (txS zs = [40] ++ (zs ++ [41])) := Lib.hid (tx_yes hB)
    have HB40 := Lib.hid ((Below.refl w.heap.size w).alloc (Nat.le_refl _) (.cells #[.int .u8 40] 5 (1, 2)))
    have HY40 := Lib.hid (lit13 w (1, 2) [40] (by decide) #[.int .u8 40] 1 rfl rfl)
    obtain ⟨w5, hw5⟩ : ∃ w5, w.alloc (.cells #[.int .u8 40] 5 (1, 2)) = w5 := ⟨_, rfl⟩
    have hs5 : w5.heap.size = w.heap.size + 1 := by rw [← hw5]; simp
    rw [hw5] at HB40 HY40
    have HB41 := Lib.hid ((Below.refl w5.heap.size w5).alloc (Nat.le_refl _) (.cells #[.int .u8 41] 5 (1, 2)))
    have HAD := Lib.hid (tx_plain (w5.heap.size + 1) (w := w) (w5 := w5) (W := w5.alloc (.cells #[.int .u8 41] 5 (1, 2))) HB40.out HB41.out (by simp) rfl HY40.out HB.out hn)
    clear hB hs5
    go_enter Tryd.func27, Tryd.ntmps27
    go_wp2_with (first
      | (go_at_call 40; refine HCF.out.mono ?_; (rintro r w2 ⟨rfl, rfl⟩))
      | (go_at_call 26; refine HAD.out.mono ?_; (rintro r w6 ⟨v6, rfl, hm6, hk6⟩); have HM6 := Lib.hid hm6; have HK6 := Lib.hid hk6; clear hm6 hk6))
    go_ret
    refine ⟨_, rfl, ?_, HB40.out.trans ((HB41.out.mono HB40.out.size).trans (HK6.out.below (Nat.le_trans HB40.out.size HB41.out.size) (fun b hb => by cases hb)))⟩
    have h := HM6.out
    rw [flat3] at h
    rw [HT.out]
    exact h.mine.cast13
end
end Go.Proofs.YtliieeagbpmcgaaDoor
