/- Chapter 8, the project's own reader: enter, put, again. -/
import Derived.Test.YtpnnejedfccckaaRx8
import Derived.Deep.RegionLaw
namespace Go.Proofs.Ytpnnejedfccckaa
open Go.RowKit
set_option linter.unusedVariables false
set_option maxRecDepth 100000

theorem infoP : (Try.prog.info? 40).map (fun i => (i.zero, i.size, i.bytes)) = some (some (.agg #[.int .i64 0, .int .i64 0]), 2, 16) := by kernel_rfl
theorem plsC_snoc (ps : List (Nat × Nat)) (p : Nat × Nat) : plsC (ps ++ [p]) = plsC ps ++ [.int .i64 (p.1 : Int), .int .i64 (p.2 : Int)] := by simp [plsC]
theorem OwnP.append1 {w : World} {base : Nat} {v : Value} {ps : List (Nat × Nat)} (h : OwnP w base v ps) (p : Nat × Nat) (g : Nat) (h0 : w.cell? ⟨g, 0, none⟩ = some (.int .i64 (p.1 : Int))) (h1 : w.cell? ⟨g, 1, none⟩ = some (.int .i64 (p.2 : Int))) (hl : ps.length ≤ 1000000) (hbase : base ≤ w.heap.size) :
    ∃ v' w', (Builtin.append_ #[38, 38] 38 #[v, .slice (some ⟨g, 0, none⟩) 1 1]).run Try.prog w = .ok v' w' ∧ OwnP w' base v' (ps ++ [p]) ∧ KeepX v w v' w' := by
  obtain ⟨i, hi, hz0, hz1, hz2⟩ := info_parts infoP
  obtain ⟨v', w', hr, hown, hgr, _, hat⟩ := run_append_own_at (P := Try.prog) w base 38 38 40 i _ 2 16 Try.underlying38 hi hz0 hz1 hz2 rfl (by omega) v ps.length (plsC ps) h ⟨g, 0, none⟩ 1 1 [.int .i64 (p.1 : Int), .int .i64 (p.2 : Int)] rfl
    (by
      intro j u hj
      have hj2 : j = 0 ∨ j = 1 := by
        have := (List.getElem?_eq_some_iff.1 hj).1
        simp at this; omega
      rcases hj2 with rfl | rfl
      · simp at hj; subst hj; simpa [Addr.add] using h0
      · simp at hj; subst hj; simpa [Addr.add] using h1)
    (by simp [Value.oneCell']) (by simp only [maxLen]; omega) (by omega) hbase
  refine ⟨v', w', hr, ?_, ⟨hgr.os, hgr.tape, hgr.output, hgr.size, fun k hk hne => hgr.block k hk (fun e => hne e.symm), fun b hb => ?_⟩⟩
  · unfold OwnP
    rw [plsC_snoc, List.length_append]
    exact hown
  · rcases hat with h1 | h1
    · exact .inl (by rw [← h1, hb])
    · rw [hb] at h1; injection h1 with h1; exact .inr (by omega)
section
variable {w0 w w' : World} {kp n c many la ln M : Nat} {A : Option Addr} {rest : Int} {tv v tv' v' : Value} {ps ps' : List (Nat × Nat)} {out out' : List Int}
/-- A table that grew, put back. -/
theorem LR.tabGrow (h : LR w0 w kp A n c rest many tv ps la ln v out M) (hk : KeepX tv w tv' w') (ht : OwnP w' w0.heap.size tv' ps') :
    LR w0 (w'.setCell ⟨kp, 3, none⟩ tv') kp A n c rest many tv' ps' la ln v out M ∧ w'.frozen? ⟨kp, 3, none⟩ = false ∧ w'.cell? ⟨kp, 3, none⟩ = some tv := by
  have hlt := h.lt
  have hks : w'.heap[kp]? = w.heap[kp]? := hk.block kp hlt h.ot
  have h6 := hks.trans h.cell
  have hne : tv'.ownBlock ≠ some kp := fun e => by
    rcases hk.own kp e with h1 | h1
    · exact h.ot h1
    · omega
  have hrow : Mine w' w0.heap.size v out.length out := h.row.keepX hk (fun b hb => h.vt b hb)
  have hlow : Below w0.heap.size w0 w' := h.low.trans (hk.below h.low.size (fun b hb => (h.tab.lt b hb).2))
  refine ⟨⟨?_, hrow.same6 fun b hb _ => Below.heap_setCell w' ⟨kp, 3, none⟩ tv' b (fun e => h.ov (by rw [hb]; exact congrArg some e)), ht.same fun b hb => Below.heap_setCell w' ⟨kp, 3, none⟩ tv' b (fun e => hne (by rw [hb]; exact congrArg some e)), h.ov, hne, fun b hb hc => ?_, h.lo, h.lm,
    hlow.trans (((Only.refl kp w').set_ 3 tv').belowB h.lo (Nat.le_of_lt (Nat.lt_of_lt_of_le hlt hk.size)))⟩, (World.frozen?_of_block hks).trans (h.fr 3), (World.cell?_of_block hks).trans (h.at_ 3)⟩
  · rw [heap_set w' kp 3 tv' _ _ h6]; rfl
  · rcases hk.own b hc with h1 | h1
    · exact h.vt b hb h1
    · have := h.row.lt b hb; omega
/-- A row that grew, put back. -/
theorem LR.rowGrow (h : LR w0 w kp A n c rest many tv ps la ln v out M) (hk : KeepX v w v' w') (ht : Mine w' w0.heap.size v' out'.length out') (hM : out'.length ≤ M) :
    LR w0 (w'.setCell ⟨kp, 6, none⟩ v') kp A n c rest many tv ps la ln v' out' M ∧ w'.frozen? ⟨kp, 6, none⟩ = false ∧ w'.cell? ⟨kp, 6, none⟩ = some v := by
  have hlt := h.lt
  have hks : w'.heap[kp]? = w.heap[kp]? := hk.block kp hlt h.ov
  have h6 := hks.trans h.cell
  have hne : v'.ownBlock ≠ some kp := fun e => by
    rcases hk.own kp e with h1 | h1
    · exact h.ov h1
    · omega
  have htab : OwnP w' w0.heap.size tv ps := h.tab.same fun b hb => hk.block b (h.tab.lt b hb).1 (fun e => h.vt b e hb)
  have hlow : Below w0.heap.size w0 w' := h.low.trans (hk.below h.low.size h.row.owned)
  refine ⟨⟨?_, ht.same6 fun b hb _ => Below.heap_setCell w' ⟨kp, 6, none⟩ v' b (fun e => hne (by rw [hb]; exact congrArg some e)), htab.same fun b hb => Below.heap_setCell w' ⟨kp, 6, none⟩ v' b (fun e => h.ot (by rw [hb]; exact congrArg some e)), hne, h.ot, fun b hb hc => ?_, h.lo, hM,
    hlow.trans (((Only.refl kp w').set_ 6 v').belowB h.lo (Nat.le_of_lt (Nat.lt_of_lt_of_le hlt hk.size)))⟩, (World.frozen?_of_block hks).trans (h.fr 6), (World.cell?_of_block hks).trans (h.at_ 6)⟩
  · rw [heap_set w' kp 6 v' _ _ h6]; rfl
  · rcases hk.own b hb with h1 | h1
    · exact h.vt b h1 hc
    · have := (h.tab.lt b hc).1; omega
/-- New memory stands beside. -/
theorem LR.more (h : LR w0 w kp A n c rest many tv ps la ln v out M) (hb : Below w.heap.size w w') : LR w0 w' kp A n c rest many tv ps la ln v out M :=
  ⟨(hb.block kp h.lt).trans h.cell, h.row.kept hb, h.tab.same fun b hb' => hb.block b (h.tab.lt b hb').1, h.ov, h.ot, h.vt, h.lo, h.lm, h.low.trans (hb.mono h.low.size)⟩
/-- A place more. -/
theorem LR.roomT (h : LR w0 w kp A n c rest many tv ps la ln v out M) (ln1 : Nat) (z : Int) (hz : z = ln1) (hl : ps.length ≤ 1000000) :
    ∃ v' w', (Builtin.append_ #[38, 38] 38 #[tv, .slice (some ⟨w.heap.size, 0, none⟩) 1 1]).run Try.prog (w.alloc (.cells #[.int .i64 la, .int .i64 z] 40)) = .ok v' w' ∧
      LR w0 (w'.setCell ⟨kp, 3, none⟩ v') kp A n c rest many v' (ps ++ [(la, ln1)]) la ln v out M ∧ w'.frozen? ⟨kp, 3, none⟩ = false ∧ w'.cell? ⟨kp, 3, none⟩ = some tv := by
  subst hz
  have hb1 := (Below.refl w.heap.size w).alloc (Nat.le_refl _) (.cells #[.int .i64 (la : Int), .int .i64 (ln1 : Int)] 40)
  have hnew := heap_alloc_new w (.cells #[.int .i64 (la : Int), .int .i64 (ln1 : Int)] 40)
  obtain ⟨v', w', hr, ho, hk⟩ := (h.more hb1).tab.append1 (la, ln1) w.heap.size (by rw [cell_of_row _ _ 0 _ _ (0, 0) hnew]; rfl) (by rw [cell_of_row _ _ 1 _ _ (0, 0) hnew]; rfl) hl (Nat.le_trans h.low.size hb1.size)
  exact ⟨v', w', hr, (h.more hb1).tabGrow hk ho⟩
theorem Mine.shape3 {base p : Nat} {zs : List Int} (h : Mine w base v p zs) : ∃ A n c, v = .slice A n c := by
  obtain ⟨A, c, e, _⟩ := h.byt
  exact ⟨A, _, c, e⟩
/-- A byte more. -/
theorem LR.roomV (h : LR w0 w kp A n c rest many tv ps la ln v out M) (z : Int) (hz : 0 ≤ z ∧ z < 256) (hm : out.length ≤ 1000000000) (hM : out.length < M) :
    ∃ v' w', (Builtin.append_ #[23, 23] 23 #[v, .slice (some ⟨w.heap.size, 0, none⟩) 1 1]).run Try.prog (w.alloc (.cells #[.int .u8 z] 5)) = .ok v' w' ∧
      LR w0 (w'.setCell ⟨kp, 6, none⟩ v') kp A n c rest many tv ps la ln v' (out ++ [z]) M ∧ w'.frozen? ⟨kp, 6, none⟩ = false ∧ w'.cell? ⟨kp, 6, none⟩ = some v ∧ KeepX v w v' w' := by
  have hb1 := (Below.refl w.heap.size w).alloc (Nat.le_refl _) (.cells #[.int .u8 z] 5)
  obtain ⟨v', w', hr, ho, hk⟩ := (h.more hb1).row.appendX (byt_lit0 w z hz) 23 (by omega) (Nat.le_trans h.low.size hb1.size)
  obtain ⟨g1, g2, g3⟩ := (h.more hb1).rowGrow (out' := out ++ [z]) hk (by rw [List.length_append]; exact ho) (by rw [List.length_append]; exact hM)
  exact ⟨v', w', hr, g1, g2, g3, hk.start hb1⟩
end
theorem step_appendL {P : Program} {ops : Array Oper} {o : Oper} {a : Act} {w w' : World} {K : Act → World → Prop} {Q : Exit → Act → World → Prop} {E : Prop} {v : Value}
    (hg : o.guard = none) (s x : Operand) (t : TypeId) (hop : o.op = Op.call { callee := Callee.builtin Builtin.append, args := #[s, x], argTypes := #[t, t] }) (vs vx : Value) (hs : a.eval s = vs) (hx : a.eval x = vx)
    (hrun : (Builtin.append_ #[t, t] o.type #[vs, vx]).run P w = .ok v w') (hK : K (a.put o.dst v) w') :
    if Region.wanted o (yielded ops a.tmps) = true then Oper.wp P o a w K Q else E := by
  have hw : Region.wanted o (yielded ops a.tmps) = true := by simp [Region.wanted, hg]
  rw [if_pos hw]
  unfold Oper.wp
  simp [execOp, hop, resolve, invoke, builtin, hs, hx, hrun, Result.andThen]
  exact hK
set_option maxHeartbeats 2000000 in
theorem lenterC (w0 w : World) (kp n c many la ln M : Nat) (A : Option Addr) (rest : Int) (tv v : Value) (ps : List (Nat × Nat)) (out : List Int) (h : LR w0 w kp A n c rest many tv ps la ln v out M) (hp : ps.length ≤ 3838) (hla : la ≤ 1000000000) (hln : ln ≤ 1000000000) :
    Calls Try.prog 38 #[.pointer (some ⟨kp, 0, none⟩)] w fun r w' => r = .returned (.tuple #[]) ∧ ∃ tv', LR w0 w' kp A n c rest many tv' (if 0 < ln ∧ ps.length < 3838 then ps ++ [(la, ln + 1)] else ps) la ln v out M := by
  have c3 : w.cell? ⟨kp, 3, none⟩ = some tv := h.at_ 3
  have c4 : w.cell? ⟨kp, 4, none⟩ = some (.int .i64 la) := h.at_ 4
  have c5 : w.cell? ⟨kp, 5, none⟩ = some (.int .i64 ln) := h.at_ 5
  have HH := Lib.hid h
  have HF := Lib.hid (lfreeC w0 w kp n c many la ln M A rest tv v ps out h (by omega))
  obtain ⟨K, hK⟩ : ∃ K, 258 + ps.length = K := ⟨_, rfl⟩
  rw [hK] at HF
  by_cases h0 : 0 < ln
  · have hi0 : (ln : Int) > 0 := by omega
    by_cases hk : ps.length < 3838
    · have hki : (K : Int) < 4096 := by omega
      have wl : IntKind.i64.wrap ((ln : Int) + 1) = (ln : Int) + 1 := IntWalk.i64_in _ (by omega)
      have HR := Lib.hid (fun k => (h.drewN k).roomT (ln + 1) ((ln : Int) + 1) (by omega) (by omega))
      rw [if_pos ⟨h0, hk⟩]
      have hlb : (ln : Int) ≤ 1000000000 := by omega
      have c3a : (w.alloc (.cells #[.int .i64 (la : Int), .int .i64 ((ln : Int) + 1)] 40)).cell? ⟨kp, 3, none⟩ = some tv := (h.more ((Below.refl _ _).alloc (Nat.le_refl _) _)).at_ 3
      clear h hK h0 hk
      go_enter Try.func38, Try.ntmps38
      go_upto_region 1 with (go_at_call 37; refine HF.out.mono ?_; (rintro r w1 ⟨rfl, rfl⟩); dsimp only)
      obtain ⟨v6, w6, hrun, hl6, hf6, hc6⟩ := HR.out 1
      obtain ⟨A6, n6, c6, hv6⟩ : ∃ A n c, v6 = .slice A n c := by
        obtain ⟨A6, c6, e, _⟩ := hl6.tab.shape
        exact ⟨A6, _, c6, e⟩
      subst hv6
      have HRUN := Lib.hid hrun
      have HL6 := Lib.hid hl6
      clear hrun hl6
      go_region_law (refine step_appendL rfl (.tmp 17) (.tmp 30) 38 rfl _ _ rfl rfl HRUN.out ?_)
      all_goals
        go_wp2_with fail
        (try simp only [Exit.inBlock, Exit.then])
        refine ⟨rfl, _, results_none rfl _ _ _, ?_⟩
        exact ⟨rfl, _, HL6.out⟩
    · have hki : ¬ (K : Int) < 4096 := by omega
      rw [if_neg (fun e => hk e.2)]
      clear h hK h0 hk
      go_enter Try.func38, Try.ntmps38
      go_wp2_with (go_at_call 37; refine HF.out.mono ?_; (rintro r w1 ⟨rfl, rfl⟩); dsimp only)
      (try simp only [Exit.inBlock, Exit.then])
      refine ⟨rfl, _, results_none rfl _ _ _, ?_⟩
      exact ⟨rfl, tv, HH.out⟩
  · have hi0 : ¬ (ln : Int) > 0 := by omega
    rw [if_neg (fun e => h0 e.1)]
    clear h hK h0
    go_enter Try.func38, Try.ntmps38
    go_wp2_with fail
    (try simp only [Exit.inBlock, Exit.then])
    refine ⟨rfl, _, results_none rfl _ _ _, ?_⟩
    exact ⟨rfl, tv, HH.out⟩
theorem lput_no (w0 w : World) (kp n c many la ln M : Nat) (A : Option Addr) (rest z : Int) (tv v : Value) (ps : List (Nat × Nat)) (out : List Int) (h : LR w0 w kp A n c rest many tv ps la ln v out M) (hM : out.length = M) :
    Calls Try.prog 39 #[.pointer (some ⟨kp, 0, none⟩), .int .u8 z] w fun r w' => r = .returned (.int .i64 7) ∧ LR w0 w' kp A n c rest many tv ps la ln v out M := by
  have c6 : w.cell? ⟨kp, 6, none⟩ = some v := h.at_ 6
  have c7 : w.cell? ⟨kp, 7, none⟩ = some (.int .i64 M) := h.at_ 7
  have HH := Lib.hid h
  obtain ⟨A2, c2, hv, _⟩ := h.row.byt
  subst hv
  obtain ⟨K, hK⟩ : ∃ K, out.length = K := ⟨_, rfl⟩
  rw [hK] at c6
  have t0 : ((K : Int) == (M : Int)) = true := beq_iff_eq.2 (by omega)
  clear h hK hM
  go_enter Try.func39, Try.ntmps39
  go_upto_region 1 with fail
  go_quiet (fail)
  go_wp2_with fail
  go_ret
  exact ⟨rfl, HH.out.drewN _⟩
theorem lput_ok (w0 w : World) (kp n c many la ln M : Nat) (A : Option Addr) (rest z : Int) (tv v : Value) (ps : List (Nat × Nat)) (out : List Int) (h : LR w0 w kp A n c rest many tv ps la ln v out M) (hM : out.length < M) (hz : 0 ≤ z ∧ z < 256) (ho : out.length ≤ 900000000) :
    Calls Try.prog 39 #[.pointer (some ⟨kp, 0, none⟩), .int .u8 z] w fun r w' => r = .returned (.int .i64 0) ∧ ∃ v', LR w0 w' kp A n c rest many tv ps la ln v' (out ++ [z]) M := by
  have c6 : w.cell? ⟨kp, 6, none⟩ = some v := h.at_ 6
  have c7 : w.cell? ⟨kp, 7, none⟩ = some (.int .i64 M) := h.at_ 7
  have HR := Lib.hid (fun k => (h.drewN k).roomV z hz (by omega) hM)
  obtain ⟨A2, c2, hv, _⟩ := h.row.byt
  subst hv
  obtain ⟨K, hK⟩ : ∃ K, out.length = K := ⟨_, rfl⟩
  rw [hK] at c6 HR
  have t0 : ((K : Int) == (M : Int)) = false := beq_eq_false_iff_ne.2 (by omega)
  clear h hK hM
  go_enter Try.func39, Try.ntmps39
  go_upto_region 1 with fail
  go_quiet (fail)
  go_wp2_with (at_builtin; obtain ⟨v6, w6, hrun, hl6, hf6, hc6, hk6⟩ := HR.out nq; obtain ⟨A6, n6, d6, rfl⟩ : ∃ A n c, v6 = .slice A n c := hl6.row.shape3; refine Lib.wpList_append_run_sl _ rfl (.tmp 19) (.tmp 21) 23 rfl _ _ rfl rfl hrun ?_; clear hrun; have HL6 := Lib.hid hl6; clear hl6 hk6)
  go_ret
  exact ⟨rfl, _, HL6.out⟩
end Go.Proofs.Ytpnnejedfccckaa
