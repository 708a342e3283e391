/- Chapter 9, the document's own Do. -/
import Derived.Test.YtagkjndiifcekaaPf9
import Derived.Deep.Cut
import Derived.Deep.CutBlock
import Derived.Deep.LoopGhost
import Derived.Deep.RegionLaw
import Derived.Deep.RegionHeld3
namespace Go.Proofs.Ytagkjndiifcekaa
open Go.RowKit
set_option linter.unusedVariables false
set_option maxRecDepth 100000

/-- An append whose run is known, as one step of a region that draws. -/
theorem step_append_run9 {P : Program} {ops : Array Oper} {o : Oper} {a : Act} {w w' : World} {K : Act → World → Prop} {Q : Exit → Act → World → Prop} {E : Prop} {v : Value}
    (hg : o.guard = none) (s x : Operand) (t : TypeId) (hop : o.op = Op.call { callee := Callee.builtin Builtin.append, args := #[s, x], argTypes := #[t, t] }) (vs vx : Value) (hs : a.eval s = vs) (hx : a.eval x = vx)
    (hrun : (Builtin.append_ #[t, t] o.type #[vs, vx]).run P w = .ok v w') (hK : K (a.put o.dst v) w') :
    if Region.wanted o (yielded ops a.tmps) = true then Oper.wp P o a w K Q else E := by
  have hw : Region.wanted o (yielded ops a.tmps) = true := by simp [Region.wanted, hg]
  rw [if_pos hw]
  unfold Oper.wp
  simp [execOp, hop, resolve, invoke, builtin, hs, hx, hrun, Result.andThen]
  exact hK
/-- What a reader answers: the bytes in new memory, its error. -/
def RdP (w : World) (R : List Int × Int) (r : Ending) (w' : World) : Prop := ∃ A c, r = .returned (.tuple #[.slice A R.1.length c, .int .i64 R.2]) ∧ Byt w' w'.heap.size A R.1.length c R.1 ∧ Below w.heap.size w w'
theorem RdP.of_row {w w' : World} {v : Value} {out : List Int} {base : Nat} (hb : Below w.heap.size w w') (h : Mine w' base v out.length out) : RdP w (out, 0) (.returned (.tuple #[v, .int .i64 0])) w' := by
  obtain ⟨A, c, rfl, hy⟩ := h.byt
  exact ⟨A, c, rfl, hy, hb⟩
theorem RdP.of_bad {w w' : World} (e : Int) (hb : Below w.heap.size w w') : RdP w ([], e) (.returned (.tuple #[.slice none 0 0, .int .i64 e])) w' :=
  ⟨none, 0, rfl, Byt.none_ _ _, hb⟩
theorem may_parts {P C K : Int} (h : mayZ P C K = true) : (P = 1 ∨ P = 2 ∨ (10 ≤ P ∧ P ≤ 15)) ∧ ∃ c k n : Nat, C = c ∧ K = k ∧ 1 ≤ c ∧ c ≤ 4 ∧ 1 ≤ k ∧ k ≤ 4096 ∧ c * k = n ∧ 1 ≤ n ∧ n ≤ 16384 ∧ (C * K).toNat = n ∧ C.toNat = c := by
  have h2 := of_decide_eq_true h
  obtain ⟨h0, h1, h3, h4, h5⟩ := h2
  refine ⟨h0, C.toNat, K.toNat, C.toNat * K.toNat, by omega, by omega, by omega, by omega, by omega, by omega, rfl, Nat.mul_pos (by omega) (by omega), Nat.mul_le_mul (show C.toNat ≤ 4 by omega) (show K.toNat ≤ 4096 by omega), ?_, rfl⟩
  have e : C * K = ((C.toNat * K.toNat : Nat) : Int) := by
    have e1 : C = (C.toNat : Int) := by omega
    have e2 : K = (K.toNat : Int) := by omega
    rw [Int.natCast_mul, ← e1, ← e2]
  rw [e]; rfl
/-- The shape's own block stays. -/
structure ShB (w : World) (g : Nat) (P C K : Int) : Prop where
  cell : w.heap[g]? = some (.cells #[.int .i64 P, .int .i64 C, .int .i64 K] 30 (0, 0))
section
variable {w w' : World} {g : Nat} {P C K : Int}
theorem ShB.lt (h : ShB w g P C K) : g < w.heap.size := by
  rcases Nat.lt_or_ge g w.heap.size with hlt | hge
  · exact hlt
  · have := h.cell; rw [Array.getElem?_eq_none hge] at this; cases this
theorem ShB.c0 (h : ShB w g P C K) : w.cell? ⟨g, 0, none⟩ = some (.int .i64 P) := by rw [cell_of_row w g 0 _ 30 (0, 0) h.cell]; rfl
theorem ShB.c1 (h : ShB w g P C K) : w.cell? ⟨g, 1, none⟩ = some (.int .i64 C) := by rw [cell_of_row w g 1 _ 30 (0, 0) h.cell]; rfl
theorem ShB.c2 (h : ShB w g P C K) : w.cell? ⟨g, 2, none⟩ = some (.int .i64 K) := by rw [cell_of_row w g 2 _ 30 (0, 0) h.cell]; rfl
theorem ShB.below {B : Nat} (h : ShB w g P C K) (hb : Below B w w') (hB : g < B) : ShB w' g P C K := ⟨(hb.block g hB).trans h.cell⟩
theorem ShB.new (w : World) (P C K : Int) : ShB (w.alloc (.cells #[.int .i64 P, .int .i64 C, .int .i64 K] 30)) w.heap.size P C K := ⟨heap_alloc_new w _⟩
end
theorem Mine.drew9 {w : World} {base p : Nat} {v : Value} {zs : List Int} (h : Mine w base v p zs) (z : Int) (hz : 0 ≤ z ∧ z < 256) (hb : base ≤ w.heap.size) (hp : p ≤ 100000000) :
    ∃ A' c' w', (Builtin.append_ #[23, 23] 23 #[v, .slice (some ⟨w.heap.size, 0, none⟩) 1 1]).run Try.prog (w.alloc (.cells #[.int .u8 z] 5)).drew = .ok (.slice A' (p + 1) c') w' ∧ Mine w' base (.slice A' (p + 1) c') (p + 1) (zs ++ [z]) ∧ Below base w w' := by
  have hb1 : Below w.heap.size w (w.alloc (.cells #[.int .u8 z] 5)).drew := show Below w.heap.size w ((w.alloc (.cells #[.int .u8 z] 5)).drewN 1) from below_drewN ((Below.refl _ _).alloc (Nat.le_refl _) _) 1
  have hm1 := h.kept hb1
  have hy : Byt (w.alloc (.cells #[.int .u8 z] 5)).drew (w.heap.size + 1) (some ⟨w.heap.size, 0, none⟩) 1 1 [z] := show Byt ((w.alloc (.cells #[.int .u8 z] 5)).drewN 1) _ _ _ _ _ from (byt_lit0 w z hz).drewN 1
  obtain ⟨v', w', hr, hm, hk⟩ := hm1.appendX hy 23 (by omega) (Nat.le_trans hb hb1.size)
  obtain ⟨A', c', rfl, _⟩ := hm.byt
  exact ⟨A', c', w', hr, hm, (hb1.mono hb).trans (hk.below (Nat.le_trans hb hb1.size) hm1.owned)⟩
theorem Mine.cast9 {w : World} {base p : Nat} {v : Value} {zs : List Int} (h : Mine w base v p zs) : Mine w base v zs.length zs := by rw [h.len]; exact h
theorem doF_len (t : Int) (c n : Nat) (ten : Bool) (zs : List Int) : ∀ f i, (doF t c n ten zs f i).length ≤ 2 * f
  | 0, i => by simp [doF]
  | f + 1, i => by
    have := doF_len t c n ten zs f (i + 1)
    rw [doF]
    split
    · rw [List.length_append, List.length_cons]
      split <;> simp <;> omega
    · simp
set_option maxHeartbeats 8000000 in
theorem refDo (P C K : Int) (A : Option Addr) (n c : Nat) (zs : List Int) (w : World) (hb : Byt w w.heap.size A n c zs) (hn : n ≤ 1000000) (R : List Int × Int) (hR : doZ P C K zs = R) :
    Calls Try.prog 15 #[shV P C K, .slice A n c] w (RdP w R) := by
  have HB := Lib.hid (fun W (hW : Below w.heap.size w W) => (hb.below hW (Nat.le_refl _)).more hW.size)
  have HLEN := Lib.hid hb.len
  have HRG := Lib.hid hb.rng
  have HW1 := Lib.hid ((Below.refl w.heap.size w).alloc (Nat.le_refl _) (.cells #[.int .i64 P, .int .i64 C, .int .i64 K] 30))
  have HSH := Lib.hid (ShB.new w P C K)
  obtain ⟨W1, hW1⟩ : ∃ W1, w.alloc (.cells #[.int .i64 P, .int .i64 C, .int .i64 K] 30) = W1 := ⟨_, rfl⟩
  have hsz : W1.heap.size = w.heap.size + 1 := by rw [← hW1]; simp
  rw [hW1] at HW1 HSH
  have HMY := Lib.hid (mayC P C K W1)
  have HCP := Lib.hid (fun W (hW : Byt W W.heap.size A n c zs) => refCopy A n c zs W hW (by omega))
  have a0 := HSH.out.c0
  have a1 := HSH.out.c1
  have a2 := HSH.out.c2
  have HSZ := Lib.hid hsz
  have HWE := Lib.hid hW1
  clear hb hsz
  rcases hmay : mayZ P C K with _ | _
  · rw [doZ, if_pos hmay] at hR
    subst hR
    rw [hmay] at HMY
    clear hmay
    go_enter Try.func15, Try.ntmps15
    go_wp2_with (go_at_call 16; refine HMY.out.mono ?_; (rintro r w2 ⟨rfl, hb2⟩); have HB2 := Lib.hid (HW1.out.trans (hb2.mono HW1.out.size)); clear hb2)
    go_ret2
    exact RdP.of_bad 1 HB2.out
  · obtain ⟨hP, cc, kk, nn, rfl, rfl, hc1, hc4, hk1, hk4, hnn, hn1, hn2, hCK, hCn⟩ := may_parts hmay
    have hcc : 1 ≤ cc ∧ cc ≤ 4 := ⟨hc1, hc4⟩
    have hkk : 1 ≤ kk ∧ kk ≤ 4096 := ⟨hk1, hk4⟩
    rw [doZ, if_neg (by rw [hmay]; decide), hCK, hCn] at hR
    rw [hmay] at HMY
    have eNN : (cc : Int) * (kk : Int) = nn := by rw [← hnn]; simp
    have wNN : IntKind.i64.wrap (nn : Int) = nn := IntWalk.i64_in _ (by omega)
    have hn00 : ¬ (nn : Int) = 0 := by omega
    clear hmay hCK hCn
    by_cases hP1 : P = 1
    · subst hP1
      rw [if_pos rfl] at hR
      subst hR
      go_enter Try.func15, Try.ntmps15
      go_wp2_with (first
        | (go_at_call 16; refine HMY.out.mono ?_; (rintro r w2 ⟨rfl, hb2⟩); have HB2 := Lib.hid (HW1.out.trans (hb2.mono HW1.out.size)); have k0 := (HSH.out.below hb2 (by have := HSZ.out; omega)).c0; clear hb2)
        | (go_at_call 17; refine (HCP.out _ (HB.out _ HB2.out)).mono ?_; (rintro r w3 ⟨v3, rfl, hm3, hb3⟩); have HM3 := Lib.hid hm3; have HB3 := Lib.hid (HB2.out.trans (hb3.mono HB2.out.size)); clear hm3 hb3))
      go_ret2
      exact RdP.of_row HB3.out (by rw [HLEN.out]; exact HM3.out)
    · rw [if_neg hP1, HLEN.out] at hR
      obtain ⟨rm, hrm⟩ : ∃ rm, n % nn = rm := ⟨_, rfl⟩
      rw [hrm] at hR
      have er1 : (n : Int).tmod nn = rm := by rw [Int.tmod_eq_emod_of_nonneg (by omega)]; omega
      have er2 : (n : Int) % nn = rm := by omega
      have hp1 : (P == 1) = false := beq_eq_false_iff_ne.2 hP1
      by_cases hrm0 : rm = 0
      · rw [if_neg (by omega)] at hR
        have er3 : ((rm : Int) != 0) = false := by simp [hrm0]
        obtain rfl | hP2 : P = 2 ∨ (10 ≤ P ∧ P ≤ 15) := by omega
        · obtain ⟨FB, hFB⟩ : ∃ FB, doF 1 cc nn false zs n 0 = FB := ⟨_, rfl⟩
          have HFB : Hid ([] ++ doF 1 cc nn false zs (n - 0) 0 = FB) := Lib.hid hFB
          have HFL : Hid (FB.length ≤ 2000000) := Lib.hid (by rw [← hFB]; have := doF_len 1 cc nn false zs n 0; omega)
          have hRR : R = (FB, 0) := by rw [← hR, ← hFB]; rfl
          subst hRR
          clear hR hFB hP hP1 hrm0 hrm
          go_enter Try.func15, Try.ntmps15
          go_wp2_with (first
            | (go_at_call 16; refine HMY.out.mono ?_; (rintro r w2 ⟨rfl, hb2⟩); have HB2 := Lib.hid hb2; have hs2 := HSH.out.below hb2 (by have := HSZ.out; omega); have k0 := hs2.c0; have k1 := hs2.c1; have k2 := hs2.c2; clear hb2 hs2))
          go_loopw [8, 9, 10, 11, 12] (fun ox iv _ _ _ wr => ∃ (ov : Value) (i : Nat) (O : List Int), ov = ox ∧ i ≤ n ∧ iv = .int .i64 i ∧ Hid (O ++ doF (1 : Int) cc nn false zs (n - i) i = FB) ∧ Hid (Mine wr W1.heap.size ov O.length O) ∧ Hid (Below W1.heap.size W1 wr)) (fun _ iv _ _ _ _ => n - (intOf iv).toNat)
          case atStart => exact ⟨_, 0, [], rfl, Nat.zero_le _, rfl, Lib.hid HFB.out, Lib.hid (Mine.nil _ _), HB2⟩
          case round =>
            obtain ⟨ov, i, O, rfl, hi, rfl, HO, HM, HBE⟩ := hrel
            have HOL : Hid (O.length ≤ 3000000) := Lib.hid (by
              have h1 := congrArg List.length HO.out
              rw [List.length_append] at h1
              have := HFL.out
              omega)
            by_cases hlt : i < n
            · have ho := HO.out
              rw [show n - i = (n - (i + 1)) + 1 by omega, doF, if_pos (by rw [HLEN.out]; exact hlt)] at ho
              have hsh := HSH.out.below HBE.out (by have := HSZ.out; omega)
              have k0 := hsh.c0
              have k1 := hsh.c1
              have k2 := hsh.c2
              have HNR := Lib.hid (fun W (hW : Below W1.heap.size W1 W) => nearC (2 : Int) cc kk nn A n c i zs W (HB.out W (HW1.out.trans (hW.mono HW1.out.size))) hlt (by omega) hcc hkk hnn)
              obtain ⟨la, hla⟩ : ∃ la, leZ cc nn zs i = la := ⟨_, rfl⟩
              obtain ⟨ab, hab⟩ : ∃ ab, abZ nn zs i = ab := ⟨_, rfl⟩
              obtain ⟨be, hbe⟩ : ∃ be, beZ cc nn zs i = be := ⟨_, rfl⟩
              have rla := leZ_rng cc nn zs HRG.out i
              have rab := abZ_rng nn zs HRG.out i
              have rbe := beZ_rng cc nn zs HRG.out i
              have hgr := gsZ_rng (1 : Int) cc nn zs HRG.out i
              rw [hla] at HNR rla
              rw [hab] at HNR rab
              rw [hbe] at HNR rbe
              have hge : gsZ (1 : Int) cc nn zs i = guessZ (1 : Int) la ab be := by rw [gsZ, hla, hab, hbe]
              rw [hge] at ho hgr
              have HGS := Lib.hid (fun W => guessC (1 : Int) la ab be W (by omega) rla rab rbe)
              obtain ⟨g, hg⟩ : ∃ g, guessZ (1 : Int) la ab be = g := ⟨_, rfl⟩
              rw [hg] at HGS hgr ho
              have hxr := getD_rng zs HRG.out i
              obtain ⟨b, o, he, _, hcl⟩ := (HB.out wr (HW1.out.trans (HBE.out.mono HW1.out.size))).cell (by omega)
              have ci := hcl i hlt
              obtain ⟨x, hx⟩ : ∃ x, zs.getD i 0 = x := ⟨_, rfl⟩
              rw [hx] at ci hxr ho
              have HCX : Hid (∀ W, Below W1.heap.size W1 W → W.cell? ⟨b, o + i, none⟩ = some (.int .u8 x)) := Lib.hid (fun W hW => by
                obtain ⟨b', o', he', _, hcl'⟩ := (HB.out W (HW1.out.trans (hW.mono HW1.out.size))).cell (by omega)
                have e3 := he.symm.trans he'
                simp only [Option.some.injEq, Addr.mk.injEq] at e3
                obtain ⟨e1, e2, _⟩ := e3
                have := hcl' i hlt
                rw [hx] at this
                rw [e1, e2]
                exact this)
              obtain ⟨V, hV⟩ : ∃ V, (x - g) % 256 = V := ⟨_, rfl⟩
              rw [hV] at ho
              have hVr : 0 ≤ V ∧ V < 256 := by omega
              have wg : IntKind.u8.wrap g = g := IntWalk.u8_in _ (by omega)
              have wV : IntKind.u8.wrap (x - g) = V := by rw [IntKind.wrap_u8]; exact hV
              obtain ⟨q, hq⟩ : ∃ q, i % nn = q := ⟨_, rfl⟩
              rw [hq] at ho
              have hqb : q < nn := by rw [← hq]; exact Nat.mod_lt _ (by omega)
              have em1 : (i : Int).tmod nn = q := by rw [Int.tmod_eq_emod_of_nonneg (by omega)]; omega
              have em2 : (i : Int) % nn = q := by omega
              have hn0 : ¬ (nn : Int) = 0 := by omega
              have hin : (i : Int) < n := by omega
              have wq : IntKind.i64.wrap (q : Int) = q := IntWalk.i64_in _ (by omega)
              have HHO := Lib.hid ho
              have HVR := Lib.hid hVr
              subst he
              obtain ⟨A0, c0, hov, _⟩ := HM.out.byt
              subst hov
              clear hcl hla hab hbe hge hg hx hV hq ho hsh rla rab rbe hxr hgr hVr
              by_cases g1 : q = 0
              · have t1 : ((q : Int) == 0) = true := beq_iff_eq.2 (by omega)
                have HO2 : Hid (O ++ [V] ++ doF (1 : Int) cc nn false zs (n - (i + 1)) (i + 1) = FB) := Lib.hid (by
                  have h := HHO.out
                  rw [if_neg (fun h => by first | exact g1 h.1 | exact absurd h.2 (by decide)), List.nil_append] at h
                  rw [List.append_assoc]
                  exact h)
                go_upto_region 20 with (go_at_call 21; refine (HNR.out _ HBE.out).mono ?_; (rintro r w4 ⟨rfl, hb4⟩); have HB4 := Lib.hid (HBE.out.trans (hb4.mono HBE.out.size)); have HM4 := Lib.hid (HM.out.kept hb4); have cx4 := HCX.out _ HB4.out; have HAP := Lib.hid (HM4.out.drew9 V HVR.out HB4.out.size (by have := HOL.out; omega)); clear hb4)
                have lb4 := cell_lt cx4
                go_region_held3 (fun w' => w'.cell? ⟨b, o + i, none⟩ = some (.int .u8 x)) (first | go_keep | assumption)
                 (first
                  | (obtain ⟨A6, c6, w6, hrun, hm6, hb6⟩ := HAP.out; refine step_append_run9 rfl (.tmp 68) (.tmp 80) 23 rfl (.slice A0 O.length c0) (.slice (some ⟨w4.heap.size, 0, none⟩) 1 1) rfl rfl hrun ?_; have HM6 := Lib.hid hm6; have HB6 := Lib.hid (HB4.out.trans hb6); have cx6 := HCX.out _ HB6.out; clear hrun hm6 hb6 HAP)
                  | (go_simp; go_at_call 22; with_reducible refine (HGS.out _).mono ?_; (rintro r w5 ⟨rfl, rfl⟩)))
                all_goals
                  go_wp2_with fail
                  go_roundw
                  case rel => exact ⟨_, i + 1, _, rfl, by omega, by go_num, HO2, Lib.hid HM6.out.cast9, HB6⟩
                  case measure => simp [intOf]; omega
              · have t1 : ((q : Int) == 0) = false := beq_eq_false_iff_ne.2 (by omega)
                have HO2 : Hid (O ++ [V] ++ doF (1 : Int) cc nn false zs (n - (i + 1)) (i + 1) = FB) := Lib.hid (by
                  have h := HHO.out
                  rw [if_neg (fun h => by first | exact g1 h.1 | exact absurd h.2 (by decide)), List.nil_append] at h
                  rw [List.append_assoc]
                  exact h)
                go_upto_region 20 with (go_at_call 21; refine (HNR.out _ HBE.out).mono ?_; (rintro r w4 ⟨rfl, hb4⟩); have HB4 := Lib.hid (HBE.out.trans (hb4.mono HBE.out.size)); have HM4 := Lib.hid (HM.out.kept hb4); have cx4 := HCX.out _ HB4.out; have HAP := Lib.hid (HM4.out.drew9 V HVR.out HB4.out.size (by have := HOL.out; omega)); clear hb4)
                have lb4 := cell_lt cx4
                go_region_held3 (fun w' => w'.cell? ⟨b, o + i, none⟩ = some (.int .u8 x)) (first | go_keep | assumption)
                 (first
                  | (obtain ⟨A6, c6, w6, hrun, hm6, hb6⟩ := HAP.out; refine step_append_run9 rfl (.tmp 68) (.tmp 80) 23 rfl (.slice A0 O.length c0) (.slice (some ⟨w4.heap.size, 0, none⟩) 1 1) rfl rfl hrun ?_; have HM6 := Lib.hid hm6; have HB6 := Lib.hid (HB4.out.trans hb6); have cx6 := HCX.out _ HB6.out; clear hrun hm6 hb6 HAP)
                  | (go_simp; go_at_call 22; with_reducible refine (HGS.out _).mono ?_; (rintro r w5 ⟨rfl, rfl⟩)))
                all_goals
                  go_wp2_with fail
                  go_roundw
                  case rel => exact ⟨_, i + 1, _, rfl, by omega, by go_num, HO2, Lib.hid HM6.out.cast9, HB6⟩
                  case measure => simp [intOf]; omega
            · obtain rfl : n = i := by omega
              have ho := HO.out
              rw [Nat.sub_self, doF, List.append_nil] at ho
              have HHO := Lib.hid ho
              clear ho
              go_wp2_with fail
              go_ret2
              rw [← HHO.out]
              exact RdP.of_row (HW1.out.trans (HBE.out.mono HW1.out.size)) HM.out
        · by_cases hP15 : P = 15
          · subst hP15
            obtain ⟨FB, hFB⟩ : ∃ FB, doF 2 cc nn true zs n 0 = FB := ⟨_, rfl⟩
            have HFB : Hid ([] ++ doF 2 cc nn true zs (n - 0) 0 = FB) := Lib.hid hFB
            have hRR : R = (FB, 0) := by rw [← hR, ← hFB]; rfl
            have HFL : Hid (FB.length ≤ 2000000) := Lib.hid (by rw [← hFB]; have := doF_len (2 : Int) cc nn true zs n 0; omega)
            subst hRR
            have gP : (15 : Int) ≥ (10 : Int) := by omega
            clear hR hFB hP hP1 hrm0 hrm
            go_enter Try.func15, Try.ntmps15
            go_wp2_with (first
              | (go_at_call 16; refine HMY.out.mono ?_; (rintro r w2 ⟨rfl, hb2⟩); have HB2 := Lib.hid hb2; have hs2 := HSH.out.below hb2 (by have := HSZ.out; omega); have k0 := hs2.c0; have k1 := hs2.c1; have k2 := hs2.c2; clear hb2 hs2))
            go_loopw [8, 9, 10, 11, 12] (fun ox iv _ _ _ wr => ∃ (ov : Value) (i : Nat) (O : List Int), ov = ox ∧ i ≤ n ∧ iv = .int .i64 i ∧ Hid (O ++ doF (2 : Int) cc nn true zs (n - i) i = FB) ∧ Hid (Mine wr W1.heap.size ov O.length O) ∧ Hid (Below W1.heap.size W1 wr)) (fun _ iv _ _ _ _ => n - (intOf iv).toNat)
            case atStart => exact ⟨_, 0, [], rfl, Nat.zero_le _, rfl, Lib.hid HFB.out, Lib.hid (Mine.nil _ _), HB2⟩
            case round =>
              obtain ⟨ov, i, O, rfl, hi, rfl, HO, HM, HBE⟩ := hrel
              have HOL : Hid (O.length ≤ 3000000) := Lib.hid (by
                have h1 := congrArg List.length HO.out
                rw [List.length_append] at h1
                have := HFL.out
                omega)
              by_cases hlt : i < n
              · have ho := HO.out
                rw [show n - i = (n - (i + 1)) + 1 by omega, doF, if_pos (by rw [HLEN.out]; exact hlt)] at ho
                have hsh := HSH.out.below HBE.out (by have := HSZ.out; omega)
                have k0 := hsh.c0
                have k1 := hsh.c1
                have k2 := hsh.c2
                have HNR := Lib.hid (fun W (hW : Below W1.heap.size W1 W) => nearC (15 : Int) cc kk nn A n c i zs W (HB.out W (HW1.out.trans (hW.mono HW1.out.size))) hlt (by omega) hcc hkk hnn)
                obtain ⟨la, hla⟩ : ∃ la, leZ cc nn zs i = la := ⟨_, rfl⟩
                obtain ⟨ab, hab⟩ : ∃ ab, abZ nn zs i = ab := ⟨_, rfl⟩
                obtain ⟨be, hbe⟩ : ∃ be, beZ cc nn zs i = be := ⟨_, rfl⟩
                have rla := leZ_rng cc nn zs HRG.out i
                have rab := abZ_rng nn zs HRG.out i
                have rbe := beZ_rng cc nn zs HRG.out i
                have hgr := gsZ_rng (2 : Int) cc nn zs HRG.out i
                rw [hla] at HNR rla
                rw [hab] at HNR rab
                rw [hbe] at HNR rbe
                have hge : gsZ (2 : Int) cc nn zs i = guessZ (2 : Int) la ab be := by rw [gsZ, hla, hab, hbe]
                rw [hge] at ho hgr
                have HGS := Lib.hid (fun W => guessC (2 : Int) la ab be W (by omega) rla rab rbe)
                obtain ⟨g, hg⟩ : ∃ g, guessZ (2 : Int) la ab be = g := ⟨_, rfl⟩
                rw [hg] at HGS hgr ho
                have hxr := getD_rng zs HRG.out i
                obtain ⟨b, o, he, _, hcl⟩ := (HB.out wr (HW1.out.trans (HBE.out.mono HW1.out.size))).cell (by omega)
                have ci := hcl i hlt
                obtain ⟨x, hx⟩ : ∃ x, zs.getD i 0 = x := ⟨_, rfl⟩
                rw [hx] at ci hxr ho
                have HCX : Hid (∀ W, Below W1.heap.size W1 W → W.cell? ⟨b, o + i, none⟩ = some (.int .u8 x)) := Lib.hid (fun W hW => by
                  obtain ⟨b', o', he', _, hcl'⟩ := (HB.out W (HW1.out.trans (hW.mono HW1.out.size))).cell (by omega)
                  have e3 := he.symm.trans he'
                  simp only [Option.some.injEq, Addr.mk.injEq] at e3
                  obtain ⟨e1, e2, _⟩ := e3
                  have := hcl' i hlt
                  rw [hx] at this
                  rw [e1, e2]
                  exact this)
                obtain ⟨V, hV⟩ : ∃ V, (x - g) % 256 = V := ⟨_, rfl⟩
                rw [hV] at ho
                have hVr : 0 ≤ V ∧ V < 256 := by omega
                have wg : IntKind.u8.wrap g = g := IntWalk.u8_in _ (by omega)
                have wV : IntKind.u8.wrap (x - g) = V := by rw [IntKind.wrap_u8]; exact hV
                obtain ⟨q, hq⟩ : ∃ q, i % nn = q := ⟨_, rfl⟩
                rw [hq] at ho
                have hqb : q < nn := by rw [← hq]; exact Nat.mod_lt _ (by omega)
                have em1 : (i : Int).tmod nn = q := by rw [Int.tmod_eq_emod_of_nonneg (by omega)]; omega
                have em2 : (i : Int) % nn = q := by omega
                have hn0 : ¬ (nn : Int) = 0 := by omega
                have hin : (i : Int) < n := by omega
                have wq : IntKind.i64.wrap (q : Int) = q := IntWalk.i64_in _ (by omega)
                have HHO := Lib.hid ho
                have HVR := Lib.hid hVr
                subst he
                obtain ⟨A0, c0, hov, _⟩ := HM.out.byt
                subst hov
                clear hcl hla hab hbe hge hg hx hV hq ho hsh rla rab rbe hxr hgr hVr
                by_cases g1 : q = 0
                · have t1 : ((q : Int) == 0) = true := beq_iff_eq.2 (by omega)
                  have HO2 : Hid (O ++ [(2 : Int)] ++ [V] ++ doF (2 : Int) cc nn true zs (n - (i + 1)) (i + 1) = FB) := Lib.hid (by
                    have h := HHO.out
                    rw [if_pos ⟨g1, rfl⟩] at h
                    rw [List.append_assoc, List.append_assoc]
                    exact h)
                  have HAL := Lib.hid (HBE.out.alloc HBE.out.size (.cells #[.int .u8 (2 : Int)] 5))
                  have HAT := Lib.hid ((HM.out.kept ((Below.refl _ _).alloc (Nat.le_refl _) (.cells #[.int .u8 (2 : Int)] 5))).appendX (byt_lit0 wr (2 : Int) (by omega)) 23 (by have := HOL.out; omega) HAL.out.size)
                  go_upto_region 19 with (at_builtin; obtain ⟨v3, w3, hrun3, hm3, hk3⟩ := HAT.out; obtain ⟨A3, c3, rfl, _⟩ := hm3.byt; refine Lib.wpList_append_run_sl _ rfl (.tmp 55) (.tmp 58) 23 rfl _ _ rfl rfl hrun3 ?_; clear hrun3; have HM3 := Lib.hid hm3; have HB3 := Lib.hid (HAL.out.trans (hk3.below HAL.out.size HM.out.owned)); have hs3 := HSH.out.below HB3.out (by have := HSZ.out; omega); have m0 := hs3.c0; have m1 := hs3.c1; have m2 := hs3.c2; clear hm3 hk3 hs3)
                  go_upto_region 20 with (go_at_call 21; refine (HNR.out _ HB3.out).mono ?_; (rintro r w4 ⟨rfl, hb4⟩); have HB4 := Lib.hid (HB3.out.trans (hb4.mono HB3.out.size)); have HM4 := Lib.hid (HM3.out.kept hb4); have cx4 := HCX.out _ HB4.out; have HAP := Lib.hid (HM4.out.drew9 V HVR.out HB4.out.size (by have := HOL.out; omega)); clear hb4)
                  have lb4 := cell_lt cx4
                  go_region_held3 (fun w' => w'.cell? ⟨b, o + i, none⟩ = some (.int .u8 x)) (first | go_keep | assumption)
                   (first
                    | (obtain ⟨A6, c6, w6, hrun, hm6, hb6⟩ := HAP.out; refine step_append_run9 rfl (.tmp 68) (.tmp 80) 23 rfl (.slice A3 (O.length + 1) c3) (.slice (some ⟨w4.heap.size, 0, none⟩) 1 1) rfl rfl hrun ?_; have HM6 := Lib.hid hm6; have HB6 := Lib.hid (HB4.out.trans hb6); have cx6 := HCX.out _ HB6.out; clear hrun hm6 hb6 HAP)
                    | (go_simp; go_at_call 22; with_reducible refine (HGS.out _).mono ?_; (rintro r w5 ⟨rfl, rfl⟩)))
                  all_goals
                    go_wp2_with fail
                    go_roundw
                    case rel => exact ⟨_, i + 1, _, rfl, by omega, by go_num, HO2, Lib.hid HM6.out.cast9, HB6⟩
                    case measure => simp [intOf]; omega
                · have t1 : ((q : Int) == 0) = false := beq_eq_false_iff_ne.2 (by omega)
                  have HO2 : Hid (O ++ [V] ++ doF (2 : Int) cc nn true zs (n - (i + 1)) (i + 1) = FB) := Lib.hid (by
                    have h := HHO.out
                    rw [if_neg (fun h => by first | exact g1 h.1 | exact absurd h.2 (by decide)), List.nil_append] at h
                    rw [List.append_assoc]
                    exact h)
                  go_upto_region 20 with (go_at_call 21; refine (HNR.out _ HBE.out).mono ?_; (rintro r w4 ⟨rfl, hb4⟩); have HB4 := Lib.hid (HBE.out.trans (hb4.mono HBE.out.size)); have HM4 := Lib.hid (HM.out.kept hb4); have cx4 := HCX.out _ HB4.out; have HAP := Lib.hid (HM4.out.drew9 V HVR.out HB4.out.size (by have := HOL.out; omega)); clear hb4)
                  have lb4 := cell_lt cx4
                  go_region_held3 (fun w' => w'.cell? ⟨b, o + i, none⟩ = some (.int .u8 x)) (first | go_keep | assumption)
                   (first
                    | (obtain ⟨A6, c6, w6, hrun, hm6, hb6⟩ := HAP.out; refine step_append_run9 rfl (.tmp 68) (.tmp 80) 23 rfl (.slice A0 O.length c0) (.slice (some ⟨w4.heap.size, 0, none⟩) 1 1) rfl rfl hrun ?_; have HM6 := Lib.hid hm6; have HB6 := Lib.hid (HB4.out.trans hb6); have cx6 := HCX.out _ HB6.out; clear hrun hm6 hb6 HAP)
                    | (go_simp; go_at_call 22; with_reducible refine (HGS.out _).mono ?_; (rintro r w5 ⟨rfl, rfl⟩)))
                  all_goals
                    go_wp2_with fail
                    go_roundw
                    case rel => exact ⟨_, i + 1, _, rfl, by omega, by go_num, HO2, Lib.hid HM6.out.cast9, HB6⟩
                    case measure => simp [intOf]; omega
              · obtain rfl : n = i := by omega
                have ho := HO.out
                rw [Nat.sub_self, doF, List.append_nil] at ho
                have HHO := Lib.hid ho
                clear ho
                go_wp2_with fail
                go_ret2
                rw [← HHO.out]
                exact RdP.of_row (HW1.out.trans (HBE.out.mono HW1.out.size)) HM.out
          · obtain ⟨T, hT⟩ : ∃ T, P - 10 = T := ⟨_, rfl⟩
            have hTr : 0 ≤ T ∧ T ≤ 4 := by omega
            have wT : IntKind.i64.wrap T = T := IntWalk.i64_in _ (by omega)
            have wT8 : IntKind.u8.wrap T = T := IntWalk.u8_in _ (by omega)
            have hp15 : (P == 15) = false := beq_eq_false_iff_ne.2 hP15
            have hp2 : (P == 2) = false := beq_eq_false_iff_ne.2 (by omega)
            obtain ⟨FB, hFB⟩ : ∃ FB, doF T cc nn true zs n 0 = FB := ⟨_, rfl⟩
            have HFB : Hid ([] ++ doF T cc nn true zs (n - 0) 0 = FB) := Lib.hid hFB
            have hRR : R = (FB, 0) := by rw [← hR, ← hFB, tagZ, if_neg (by omega), if_neg hP15, hT, show decide (10 ≤ P) = true from decide_eq_true (by omega)]
            have HFL : Hid (FB.length ≤ 2000000) := Lib.hid (by rw [← hFB]; have := doF_len T cc nn true zs n 0; omega)
            subst hRR
            have gP : P ≥ (10 : Int) := by omega
            clear hR hFB hP hP1 hrm0 hrm
            go_enter Try.func15, Try.ntmps15
            go_wp2_with (first
              | (go_at_call 16; refine HMY.out.mono ?_; (rintro r w2 ⟨rfl, hb2⟩); have HB2 := Lib.hid hb2; have hs2 := HSH.out.below hb2 (by have := HSZ.out; omega); have k0 := hs2.c0; have k1 := hs2.c1; have k2 := hs2.c2; clear hb2 hs2))
            go_loopw [8, 9, 10, 11, 12] (fun ox iv _ _ _ wr => ∃ (ov : Value) (i : Nat) (O : List Int), ov = ox ∧ i ≤ n ∧ iv = .int .i64 i ∧ Hid (O ++ doF T cc nn true zs (n - i) i = FB) ∧ Hid (Mine wr W1.heap.size ov O.length O) ∧ Hid (Below W1.heap.size W1 wr)) (fun _ iv _ _ _ _ => n - (intOf iv).toNat)
            case atStart => exact ⟨_, 0, [], rfl, Nat.zero_le _, rfl, Lib.hid HFB.out, Lib.hid (Mine.nil _ _), HB2⟩
            case round =>
              obtain ⟨ov, i, O, rfl, hi, rfl, HO, HM, HBE⟩ := hrel
              have HOL : Hid (O.length ≤ 3000000) := Lib.hid (by
                have h1 := congrArg List.length HO.out
                rw [List.length_append] at h1
                have := HFL.out
                omega)
              by_cases hlt : i < n
              · have ho := HO.out
                rw [show n - i = (n - (i + 1)) + 1 by omega, doF, if_pos (by rw [HLEN.out]; exact hlt)] at ho
                have hsh := HSH.out.below HBE.out (by have := HSZ.out; omega)
                have k0 := hsh.c0
                have k1 := hsh.c1
                have k2 := hsh.c2
                have HNR := Lib.hid (fun W (hW : Below W1.heap.size W1 W) => nearC P cc kk nn A n c i zs W (HB.out W (HW1.out.trans (hW.mono HW1.out.size))) hlt (by omega) hcc hkk hnn)
                obtain ⟨la, hla⟩ : ∃ la, leZ cc nn zs i = la := ⟨_, rfl⟩
                obtain ⟨ab, hab⟩ : ∃ ab, abZ nn zs i = ab := ⟨_, rfl⟩
                obtain ⟨be, hbe⟩ : ∃ be, beZ cc nn zs i = be := ⟨_, rfl⟩
                have rla := leZ_rng cc nn zs HRG.out i
                have rab := abZ_rng nn zs HRG.out i
                have rbe := beZ_rng cc nn zs HRG.out i
                have hgr := gsZ_rng T cc nn zs HRG.out i
                rw [hla] at HNR rla
                rw [hab] at HNR rab
                rw [hbe] at HNR rbe
                have hge : gsZ T cc nn zs i = guessZ T la ab be := by rw [gsZ, hla, hab, hbe]
                rw [hge] at ho hgr
                have HGS := Lib.hid (fun W => guessC T la ab be W (by omega) rla rab rbe)
                obtain ⟨g, hg⟩ : ∃ g, guessZ T la ab be = g := ⟨_, rfl⟩
                rw [hg] at HGS hgr ho
                have hxr := getD_rng zs HRG.out i
                obtain ⟨b, o, he, _, hcl⟩ := (HB.out wr (HW1.out.trans (HBE.out.mono HW1.out.size))).cell (by omega)
                have ci := hcl i hlt
                obtain ⟨x, hx⟩ : ∃ x, zs.getD i 0 = x := ⟨_, rfl⟩
                rw [hx] at ci hxr ho
                have HCX : Hid (∀ W, Below W1.heap.size W1 W → W.cell? ⟨b, o + i, none⟩ = some (.int .u8 x)) := Lib.hid (fun W hW => by
                  obtain ⟨b', o', he', _, hcl'⟩ := (HB.out W (HW1.out.trans (hW.mono HW1.out.size))).cell (by omega)
                  have e3 := he.symm.trans he'
                  simp only [Option.some.injEq, Addr.mk.injEq] at e3
                  obtain ⟨e1, e2, _⟩ := e3
                  have := hcl' i hlt
                  rw [hx] at this
                  rw [e1, e2]
                  exact this)
                obtain ⟨V, hV⟩ : ∃ V, (x - g) % 256 = V := ⟨_, rfl⟩
                rw [hV] at ho
                have hVr : 0 ≤ V ∧ V < 256 := by omega
                have wg : IntKind.u8.wrap g = g := IntWalk.u8_in _ (by omega)
                have wV : IntKind.u8.wrap (x - g) = V := by rw [IntKind.wrap_u8]; exact hV
                obtain ⟨q, hq⟩ : ∃ q, i % nn = q := ⟨_, rfl⟩
                rw [hq] at ho
                have hqb : q < nn := by rw [← hq]; exact Nat.mod_lt _ (by omega)
                have em1 : (i : Int).tmod nn = q := by rw [Int.tmod_eq_emod_of_nonneg (by omega)]; omega
                have em2 : (i : Int) % nn = q := by omega
                have hn0 : ¬ (nn : Int) = 0 := by omega
                have hin : (i : Int) < n := by omega
                have wq : IntKind.i64.wrap (q : Int) = q := IntWalk.i64_in _ (by omega)
                have HHO := Lib.hid ho
                have HVR := Lib.hid hVr
                subst he
                obtain ⟨A0, c0, hov, _⟩ := HM.out.byt
                subst hov
                clear hcl hla hab hbe hge hg hx hV hq ho hsh rla rab rbe hxr hgr hVr
                by_cases g1 : q = 0
                · have t1 : ((q : Int) == 0) = true := beq_iff_eq.2 (by omega)
                  have HO2 : Hid (O ++ [T] ++ [V] ++ doF T cc nn true zs (n - (i + 1)) (i + 1) = FB) := Lib.hid (by
                    have h := HHO.out
                    rw [if_pos ⟨g1, rfl⟩] at h
                    rw [List.append_assoc, List.append_assoc]
                    exact h)
                  have HAL := Lib.hid (HBE.out.alloc HBE.out.size (.cells #[.int .u8 T] 5))
                  have HAT := Lib.hid ((HM.out.kept ((Below.refl _ _).alloc (Nat.le_refl _) (.cells #[.int .u8 T] 5))).appendX (byt_lit0 wr T (by omega)) 23 (by have := HOL.out; omega) HAL.out.size)
                  go_upto_region 19 with (at_builtin; obtain ⟨v3, w3, hrun3, hm3, hk3⟩ := HAT.out; obtain ⟨A3, c3, rfl, _⟩ := hm3.byt; refine Lib.wpList_append_run_sl _ rfl (.tmp 55) (.tmp 58) 23 rfl _ _ rfl rfl hrun3 ?_; clear hrun3; have HM3 := Lib.hid hm3; have HB3 := Lib.hid (HAL.out.trans (hk3.below HAL.out.size HM.out.owned)); have hs3 := HSH.out.below HB3.out (by have := HSZ.out; omega); have m0 := hs3.c0; have m1 := hs3.c1; have m2 := hs3.c2; clear hm3 hk3 hs3)
                  go_upto_region 20 with (go_at_call 21; refine (HNR.out _ HB3.out).mono ?_; (rintro r w4 ⟨rfl, hb4⟩); have HB4 := Lib.hid (HB3.out.trans (hb4.mono HB3.out.size)); have HM4 := Lib.hid (HM3.out.kept hb4); have cx4 := HCX.out _ HB4.out; have HAP := Lib.hid (HM4.out.drew9 V HVR.out HB4.out.size (by have := HOL.out; omega)); clear hb4)
                  have lb4 := cell_lt cx4
                  go_region_held3 (fun w' => w'.cell? ⟨b, o + i, none⟩ = some (.int .u8 x)) (first | go_keep | assumption)
                   (first
                    | (obtain ⟨A6, c6, w6, hrun, hm6, hb6⟩ := HAP.out; refine step_append_run9 rfl (.tmp 68) (.tmp 80) 23 rfl (.slice A3 (O.length + 1) c3) (.slice (some ⟨w4.heap.size, 0, none⟩) 1 1) rfl rfl hrun ?_; have HM6 := Lib.hid hm6; have HB6 := Lib.hid (HB4.out.trans hb6); have cx6 := HCX.out _ HB6.out; clear hrun hm6 hb6 HAP)
                    | (go_simp; go_at_call 22; with_reducible refine (HGS.out _).mono ?_; (rintro r w5 ⟨rfl, rfl⟩)))
                  all_goals
                    go_wp2_with fail
                    go_roundw
                    case rel => exact ⟨_, i + 1, _, rfl, by omega, by go_num, HO2, Lib.hid HM6.out.cast9, HB6⟩
                    case measure => simp [intOf]; omega
                · have t1 : ((q : Int) == 0) = false := beq_eq_false_iff_ne.2 (by omega)
                  have HO2 : Hid (O ++ [V] ++ doF T cc nn true zs (n - (i + 1)) (i + 1) = FB) := Lib.hid (by
                    have h := HHO.out
                    rw [if_neg (fun h => by first | exact g1 h.1 | exact absurd h.2 (by decide)), List.nil_append] at h
                    rw [List.append_assoc]
                    exact h)
                  go_upto_region 20 with (go_at_call 21; refine (HNR.out _ HBE.out).mono ?_; (rintro r w4 ⟨rfl, hb4⟩); have HB4 := Lib.hid (HBE.out.trans (hb4.mono HBE.out.size)); have HM4 := Lib.hid (HM.out.kept hb4); have cx4 := HCX.out _ HB4.out; have HAP := Lib.hid (HM4.out.drew9 V HVR.out HB4.out.size (by have := HOL.out; omega)); clear hb4)
                  have lb4 := cell_lt cx4
                  go_region_held3 (fun w' => w'.cell? ⟨b, o + i, none⟩ = some (.int .u8 x)) (first | go_keep | assumption)
                   (first
                    | (obtain ⟨A6, c6, w6, hrun, hm6, hb6⟩ := HAP.out; refine step_append_run9 rfl (.tmp 68) (.tmp 80) 23 rfl (.slice A0 O.length c0) (.slice (some ⟨w4.heap.size, 0, none⟩) 1 1) rfl rfl hrun ?_; have HM6 := Lib.hid hm6; have HB6 := Lib.hid (HB4.out.trans hb6); have cx6 := HCX.out _ HB6.out; clear hrun hm6 hb6 HAP)
                    | (go_simp; go_at_call 22; with_reducible refine (HGS.out _).mono ?_; (rintro r w5 ⟨rfl, rfl⟩)))
                  all_goals
                    go_wp2_with fail
                    go_roundw
                    case rel => exact ⟨_, i + 1, _, rfl, by omega, by go_num, HO2, Lib.hid HM6.out.cast9, HB6⟩
                    case measure => simp [intOf]; omega
              · obtain rfl : n = i := by omega
                have ho := HO.out
                rw [Nat.sub_self, doF, List.append_nil] at ho
                have HHO := Lib.hid ho
                clear ho
                go_wp2_with fail
                go_ret2
                rw [← HHO.out]
                exact RdP.of_row (HW1.out.trans (HBE.out.mono HW1.out.size)) HM.out
      · rw [if_pos hrm0] at hR
        subst hR
        have er3 : ((rm : Int) != 0) = true := by simp [hrm0]
        clear hP1 hrm0
        go_enter Try.func15, Try.ntmps15
        go_wp2_with (first
          | (go_at_call 16; refine HMY.out.mono ?_; (rintro r w2 ⟨rfl, hb2⟩); have HB2 := Lib.hid (HW1.out.trans (hb2.mono HW1.out.size)); have hs2 := HSH.out.below hb2 (by have := HSZ.out; omega); have k0 := hs2.c0; have k1 := hs2.c1; have k2 := hs2.c2; clear hb2))
        go_ret2
        exact RdP.of_bad 4 HB2.out
end Go.Proofs.Ytagkjndiifcekaa
