/- The document's own Sink, for seats without []int (chapters 7, 8): bytes up to a bound. Text of Sk6. -/
import Derived.Test.YtpnnejedfccckaaRow5
import Derived.Test.YtpnnejedfccckaaRef1
import Derived.Deep.QuietTactic
import Derived.BigQuiet
import Derived.WalkSpells
namespace Go.Proofs.Ytpnnejedfccckaa
open Go.RowKit
set_option linter.unusedVariables false
set_option maxRecDepth 100000

/-- A row of one's own stays where its block stays. -/
theorem Mine.same6 {w w' : World} {base p : Nat} {v : Value} {zs : List Int} (h : Mine w base v p zs) (hb : ∀ b, v.ownBlock = some b → b < w.heap.size → w'.heap[b]? = w.heap[b]?) : Mine w' base v p zs := by
  refine ⟨⟨h.own.1, ?_⟩, h.rng⟩
  rcases h.own.2 with h0 | ⟨b, cap, cur, hv, hbb, hh, hr⟩
  · exact .inl h0
  · refine .inr ⟨b, cap, cur, hv, hbb, ?_, hr⟩
    have hlt : b < w.heap.size := by
      rcases Nat.lt_or_ge b w.heap.size with hlt | hge
      · exact hlt
      · rw [Array.getElem?_eq_none hge] at hh; cases hh
    rw [hb b (by rw [hv]; rfl) hlt]
    exact hh
/-- Block ks is a sink: what came, in a row of its own, all from block 'base' on; the bound; what is wrong. -/
structure Snk (w : World) (base ks : Nat) (v : Value) (out : List Int) (M : Nat) (bad : Int) : Prop where
  cell : w.heap[ks]? = some (.cells #[v, .int .i64 M, .int .i64 bad] 57 (0, 0))
  row : Mine w base v out.length out
  own : ∀ b, v.ownBlock = some b → b ≠ ks
  lo : base ≤ ks
section
variable {w w' : World} {base ks M : Nat} {v : Value} {out : List Int} {bad : Int}
theorem Snk.lt (h : Snk w base ks v out M bad) : ks < w.heap.size := by
  rcases Nat.lt_or_ge ks w.heap.size with hlt | hge
  · exact hlt
  · have := h.cell; rw [Array.getElem?_eq_none hge] at this; cases this
theorem Snk.base_le (h : Snk w base ks v out M bad) : base ≤ w.heap.size := Nat.le_trans h.lo (Nat.le_of_lt h.lt)
theorem Snk.c0 (h : Snk w base ks v out M bad) : w.cell? ⟨ks, 0, none⟩ = some v := by rw [cell_of_row w ks 0 _ 57 (0, 0) h.cell]; rfl
theorem Snk.c1 (h : Snk w base ks v out M bad) : w.cell? ⟨ks, 1, none⟩ = some (.int .i64 M) := by rw [cell_of_row w ks 1 _ 57 (0, 0) h.cell]; rfl
theorem Snk.c2 (h : Snk w base ks v out M bad) : w.cell? ⟨ks, 2, none⟩ = some (.int .i64 bad) := by rw [cell_of_row w ks 2 _ 57 (0, 0) h.cell]; rfl
theorem Snk.fr (h : Snk w base ks v out M bad) (i : Nat) : w.frozen? ⟨ks, i, none⟩ = false := by
  have := h.cell
  simp [World.frozen?, this]
theorem Snk.drewN (h : Snk w base ks v out M bad) (k : Nat) : Snk (w.drewN k) base ks v out M bad := ⟨h.cell, h.row.drewN k, h.own, h.lo⟩
theorem Snk.more (h : Snk w base ks v out M bad) (hb : Below w.heap.size w w') : Snk w' base ks v out M bad := ⟨(hb.block ks h.lt).trans h.cell, h.row.kept hb, h.own, h.lo⟩
theorem Snk.new (w : World) (base M : Nat) (hb : base ≤ w.heap.size) : Snk (w.alloc (.cells #[.slice none 0 0, .int .i64 M, .int .i64 0] 57)) base w.heap.size (.slice none 0 0) [] M 0 :=
  ⟨heap_alloc_new w _, Mine.nil _ _, (fun b hb => by cases hb), hb⟩
theorem Snk.setBad (h : Snk w base ks v out M bad) (e : Int) : Snk (w.setCell ⟨ks, 2, none⟩ (.int .i64 e)) base ks v out M e := by
  refine ⟨?_, h.row.same6 fun b hb hlt => Below.heap_setCell w ⟨ks, 2, none⟩ _ b (h.own b hb), h.own, h.lo⟩
  have := h.cell
  simp [World.setCell, Array.getElem?_modify, this]
theorem Snk.belowSet (h : Snk w base ks v out M bad) (i : Nat) (u : Value) : Below base w (w.setCell ⟨ks, i, none⟩ u) := ((Only.refl ks w).set_ i u).belowB h.lo (Nat.le_of_lt h.lt)
/-- A row that grew, put back. -/
theorem Snk.grown {w6 : World} {v6 : Value} {out6 : List Int} (h : Snk w base ks v out M bad) (hrow : Mine w6 base v6 out6.length out6)
    (hblk : ∀ i, i < w.heap.size → v.ownBlock ≠ some i → w6.heap[i]? = w.heap[i]?) (hbe : Below base w w6) (hown : ∀ b, v6.ownBlock = some b → v.ownBlock = some b ∨ w.heap.size ≤ b) :
    Snk (w6.setCell ⟨ks, 0, none⟩ v6) base ks v6 out6 M bad ∧ Below base w (w6.setCell ⟨ks, 0, none⟩ v6) := by
  have hk := h.lt
  have hne : ∀ b, v6.ownBlock = some b → b ≠ ks := fun b hb => by
    rcases hown b hb with h1 | h1
    · exact h.own b h1
    · omega
  have h6 : w6.heap[ks]? = _ := (hblk ks hk (fun e => h.own ks e rfl)).trans h.cell
  have hk6 : ks < w6.heap.size := Nat.lt_of_lt_of_le hk hbe.size
  refine ⟨⟨?_, hrow.same6 fun b hb _ => Below.heap_setCell w6 ⟨ks, 0, none⟩ v6 b (hne b hb), hne, h.lo⟩, hbe.trans (((Only.refl ks w6).set_ 0 v6).belowB h.lo (Nat.le_of_lt hk6))⟩
  simp [World.setCell, Array.getElem?_modify, h6]
/-- One byte more, put back. -/
theorem Snk.room (h : Snk w base ks v out M bad) (z : Int) (hz : 0 ≤ z ∧ z < 256) (hm : out.length ≤ 100000000) :
    ∃ v' w', (Builtin.append_ #[23, 23] 23 #[v, .slice (some ⟨w.heap.size, 0, none⟩) 1 1]).run Try.prog (w.alloc (.cells #[.int .u8 z] 5)) = .ok v' w' ∧
      Snk (w'.setCell ⟨ks, 0, none⟩ v') base ks v' (out ++ [z]) M bad ∧ Below base w (w'.setCell ⟨ks, 0, none⟩ v') ∧ w'.frozen? ⟨ks, 0, none⟩ = false ∧ w'.cell? ⟨ks, 0, none⟩ = some v ∧ ∃ A c, v' = .slice A (out.length + 1) c := by
  have hbw := h.base_le
  obtain ⟨v6, w6, hrun, hmi6, hbe6, hbl6, hsz6, hwn6⟩ := (h.row.kept ((Below.refl _ _).alloc (Nat.le_refl _) (.cells #[.int .u8 z] 5))).appendT (byt_lit0 w z hz) 23 (by omega) (Nat.le_trans hbw (by simp))
  have hold : ∀ i, i < w.heap.size → (w.alloc (.cells #[.int .u8 z] 5)).heap[i]? = w.heap[i]? := fun i hi => ((Below.refl w.heap.size w).alloc (Nat.le_refl _) (.cells #[.int .u8 z] 5)).block i hi
  have hks : w6.heap[ks]? = w.heap[ks]? := (hbl6 ks (by have := h.lt; simp; omega) (fun e => h.own ks e rfl)).trans (hold ks h.lt)
  obtain ⟨A6, c6, hv6, _⟩ := hmi6.byt
  have hend := h.grown (w6 := w6) (v6 := v6) (out6 := out ++ [z]) (by rw [List.length_append]; exact hmi6) (fun i hi hne => (hbl6 i (by simp; omega) hne).trans (hold i hi))
    (((Below.refl base w).alloc hbw _).trans hbe6) (fun b hb => by
      rcases hwn6 b hb with h1 | h1
      · exact .inl h1
      · rw [World.size_alloc] at h1; exact .inr (by omega))
  exact ⟨v6, w6, hrun, hend.1, hend.2, (World.frozen?_of_block hks).trans (h.fr 0), (World.cell?_of_block hks).trans h.c0, A6, c6, hv6⟩
end

def skO (M : Nat) (out : List Int) (bad z : Int) : List Int := if bad = 0 ∧ out.length < M then out ++ [z] else out
def skE (M : Nat) (out : List Int) (bad : Int) : Int := if bad = 0 ∧ M ≤ out.length then 7 else bad

set_option maxHeartbeats 1000000 in
theorem skput (base ks M : Nat) (bad z : Int) (v : Value) (out : List Int) (w : World) (h : Snk w base ks v out M bad) (hz : 0 ≤ z ∧ z < 256) (hm : out.length ≤ 100000000) :
    Calls Try.prog 24 #[.pointer (some ⟨ks, 0, none⟩), .int .u8 z] w fun r w' => r = .returned (.tuple #[]) ∧ ∃ v', Snk w' base ks v' (skO M out bad z) M (skE M out bad) ∧ Below base w w' := by
  have H := Lib.hid h
  have h0 := h.c0
  have h1 := h.c1
  have h2 := h.c2
  have hf := h.fr 0
  have hf2 := h.fr 2
  obtain ⟨A2, c2, hv, _⟩ := h.row.byt
  subst hv
  clear h
  by_cases he : bad = 0
  · subst he
    by_cases hlt : out.length < M
    · have hd : ¬ ((out.length : Int) ≥ M) := by omega
      have HO : Hid (skO M out 0 z = out ++ [z]) := Lib.hid (by unfold skO; rw [if_pos ⟨rfl, hlt⟩])
      have HE : Hid (skE M out 0 = 0) := Lib.hid (by unfold skE; rw [if_neg (by omega)])
      have HAP := Lib.hid (fun nq => (H.out.drewN nq).room z hz hm)
      go_enter Try.func24, Try.ntmps24
      go_wp2_with fail
      go_quiet (fail)
      go_wp2_with (first
        | (at_builtin; obtain ⟨v6, w6, hrun, hs6, hb6, hf6, hk6, A6, c6, rfl⟩ := HAP.out nq; refine Lib.wpList_append_run_sl _ rfl (.tmp 33) (.tmp 35) 23 rfl _ _ rfl rfl hrun ?_; clear hrun; have HS6 := Lib.hid hs6; have HB6 := Lib.hid hb6; clear hs6 hb6))
      (try simp only [Exit.inBlock, Exit.then])
      refine ⟨rfl, _, results_none rfl _ _ _, ?_⟩
      rw [HO.out, HE.out]
      exact ⟨rfl, _, HS6.out, (below_drewN (Below.refl _ _) nq).trans HB6.out⟩
    · have hd : (out.length : Int) ≥ M := by omega
      have HO : Hid (skO M out 0 z = out) := Lib.hid (by unfold skO; rw [if_neg (by omega)])
      have HE : Hid (skE M out 0 = 7) := Lib.hid (by unfold skE; rw [if_pos (by omega)])
      go_enter Try.func24, Try.ntmps24
      go_wp2_with fail
      go_quiet (fail)
      go_wp2_with fail
      (try simp only [Exit.inBlock, Exit.then])
      refine ⟨rfl, _, results_none rfl _ _ _, ?_⟩
      rw [HO.out, HE.out]
      exact ⟨rfl, _, (H.out.drewN nq).setBad 7, (below_drewN (Below.refl _ _) nq).trans ((H.out.drewN nq).belowSet 2 _)⟩
  · have hne : (bad == 0) = false := beq_eq_false_iff_ne.2 he
    have HO : Hid (skO M out bad z = out) := Lib.hid (by unfold skO; rw [if_neg (by omega)])
    have HE : Hid (skE M out bad = bad) := Lib.hid (by unfold skE; rw [if_neg (by omega)])
    clear he
    go_enter Try.func24, Try.ntmps24
    go_wp2_with fail
    go_quiet (fail)
    go_wp2_with fail
    (try simp only [Exit.inBlock, Exit.then])
    refine ⟨rfl, _, results_none rfl _ _ _, ?_⟩
    rw [HO.out, HE.out]
    exact ⟨rfl, _, H.out.drewN nq, below_drewN (Below.refl _ _) nq⟩
theorem skfail (base ks M : Nat) (bad e : Int) (v : Value) (out : List Int) (w : World) (h : Snk w base ks v out M bad) :
    Calls Try.prog 22 #[.pointer (some ⟨ks, 0, none⟩), .int .i64 e] w fun r w' => r = .returned (.tuple #[]) ∧ Snk w' base ks v out M (if bad = 0 then e else bad) ∧ Below base w w' := by
  have H := Lib.hid h
  have h2 := h.c2
  have hf2 := h.fr 2
  clear h
  by_cases he : bad = 0
  · subst he
    go_enter Try.func22, Try.ntmps22
    go_wp2_with fail
    (try simp only [Exit.inBlock, Exit.then])
    refine ⟨rfl, _, results_none rfl _ _ _, ?_⟩
    exact ⟨rfl, H.out.setBad e, H.out.belowSet 2 _⟩
  · have hne : (bad == 0) = false := beq_eq_false_iff_ne.2 he
    have HN := Lib.hid he
    clear he
    go_enter Try.func22, Try.ntmps22
    go_wp2_with fail
    (try simp only [Exit.inBlock, Exit.then])
    refine ⟨rfl, _, results_none rfl _ _ _, ?_⟩
    exact ⟨rfl, H.out, Below.refl _ _⟩
theorem skout0 (base ks M : Nat) (v : Value) (out : List Int) (w : World) (h : Snk w base ks v out M 0) :
    Calls Try.prog 23 #[.pointer (some ⟨ks, 0, none⟩)] w fun r w' => r = .returned (.tuple #[v, .int .i64 0]) ∧ ∃ q, w' = w.drewN q := by
  have h0 := h.c0
  have h2 := h.c2
  clear h
  go_enter Try.func23, Try.ntmps23
  go_wp2
  go_ret2
  exact ⟨rfl, 0, rfl⟩
theorem skout1 (base ks M : Nat) (bad : Int) (v : Value) (out : List Int) (w : World) (h : Snk w base ks v out M bad) (hb : ¬ bad = 0) :
    Calls Try.prog 23 #[.pointer (some ⟨ks, 0, none⟩)] w fun r w' => r = .returned (.tuple #[.slice none 0 0, .int .i64 bad]) ∧ ∃ q, w' = w.drewN q := by
  have h0 := h.c0
  have h2 := h.c2
  have hne : (bad == 0) = false := beq_eq_false_iff_ne.2 hb
  have hne2 : (bad != 0) = true := by simp [bne, hne]
  clear h hb
  go_enter Try.func23, Try.ntmps23
  go_wp2_with fail
  go_quiet (fail)
  go_wp2
  go_ret2
  exact ⟨rfl, _, rfl⟩

end Go.Proofs.Ytpnnejedfccckaa
