/- Chapter 8, the document's own Sink beside rows that stay. -/
import Derived.Test.YtpnnejedfccckaaSi7
import Derived.Test.YtpnnejedfccckaaKp8
namespace Go.Proofs.Ytpnnejedfccckaa
open Go.RowKit
set_option linter.unusedVariables false
set_option maxRecDepth 100000

/-- Of what was there, the sink and its row alone may have changed. -/
structure KeepS (ks : Nat) (v : Value) (w : World) (v' : Value) (w' : World) : Prop where
  os : w'.os = w.os
  tape : w'.tape = w.tape
  output : w'.output = w.output
  size : w.heap.size ≤ w'.heap.size
  block : ∀ i, i < w.heap.size → i ≠ ks → v.ownBlock ≠ some i → w'.heap[i]? = w.heap[i]?
  own : ∀ b, v'.ownBlock = some b → v.ownBlock = some b ∨ w.heap.size ≤ b
theorem KeepS.refl (ks : Nat) (v : Value) (w : World) : KeepS ks v w v w := ⟨rfl, rfl, rfl, Nat.le_refl _, fun _ _ _ _ => rfl, fun _ h => .inl h⟩
theorem KeepS.drewN {ks : Nat} {v v' : Value} {w w' : World} (h : KeepS ks v w v' w') (k : Nat) : KeepS ks v w v' (w'.drewN k) := ⟨h.os, h.tape, h.output, h.size, h.block, h.own⟩
section
variable {w w' : World} {base ks M : Nat} {v : Value} {out : List Int} {bad : Int}
theorem KeepS.below {v' : Value} (h : KeepS ks v w v' w') (hs : Snk w base ks v out M bad) : Below base w w' :=
  ⟨h.os, h.tape, h.output, h.size, fun k hk => h.block k (Nat.lt_of_lt_of_le hk hs.base_le) (by have := hs.lo; omega) (fun e => by have := hs.row.owned k e; omega)⟩
theorem Snk.setX (h : Snk w base ks v out M bad) (i : Nat) (u : Value) : KeepS ks v w v (w.setCell ⟨ks, i, none⟩ u) :=
  ⟨rfl, rfl, rfl, by simp [World.setCell], fun k _ hne _ => Below.heap_setCell w ⟨ks, i, none⟩ u k hne, fun b hb => .inl hb⟩
theorem Snk.roomX (h : Snk w base ks v out M bad) (z : Int) (hz : 0 ≤ z ∧ z < 256) (hm : out.length ≤ 100000000) :
    ∃ v' w', (Builtin.append_ #[23, 23] 23 #[v, .slice (some ⟨w.heap.size, 0, none⟩) 1 1]).run Try.prog (w.alloc (.cells #[.int .u8 z] 5)) = .ok v' w' ∧
      Snk (w'.setCell ⟨ks, 0, none⟩ v') base ks v' (out ++ [z]) M bad ∧ KeepS ks v w v' (w'.setCell ⟨ks, 0, none⟩ v') ∧ w'.frozen? ⟨ks, 0, none⟩ = false ∧ w'.cell? ⟨ks, 0, none⟩ = some v ∧ ∃ A c, v' = .slice A (out.length + 1) c := by
  have hbw := h.base_le
  have hb1 := (Below.refl w.heap.size w).alloc (Nat.le_refl _) (.cells #[.int .u8 z] 5)
  obtain ⟨v6, w6, hrun, hmi6, hbe6, hbl6, hsz6, hwn6⟩ := (h.row.kept hb1).appendT (byt_lit0 w z hz) 23 (by omega) (Nat.le_trans hbw (by simp))
  have hold : ∀ i, i < w.heap.size → (w.alloc (.cells #[.int .u8 z] 5)).heap[i]? = w.heap[i]? := fun i hi => hb1.block i hi
  have hks : w6.heap[ks]? = w.heap[ks]? := (hbl6 ks (by have := h.lt; simp; omega) (fun e => h.own ks e rfl)).trans (hold ks h.lt)
  obtain ⟨A6, c6, hv6, _⟩ := hmi6.byt
  have hown : ∀ b, v6.ownBlock = some b → v.ownBlock = some b ∨ w.heap.size ≤ b := fun b hb => by
    rcases hwn6 b hb with h1 | h1
    · exact .inl h1
    · rw [World.size_alloc] at h1; exact .inr (by omega)
  have hend := h.grown (w6 := w6) (v6 := v6) (out6 := out ++ [z]) (by rw [List.length_append]; exact hmi6) (fun i hi hne => (hbl6 i (by simp; omega) hne).trans (hold i hi))
    (((Below.refl base w).alloc hbw _).trans hbe6) hown
  refine ⟨v6, w6, hrun, hend.1, ⟨hbe6.os, hbe6.tape, hbe6.output, ?_, fun i hi hne hv => ?_, hown⟩, (World.frozen?_of_block hks).trans (h.fr 0), (World.cell?_of_block hks).trans h.c0, A6, c6, hv6⟩
  · have := hsz6; simp [World.setCell] at this ⊢; omega
  · exact (Below.heap_setCell w6 ⟨ks, 0, none⟩ v6 i hne).trans ((hbl6 i (by simp; omega) hv).trans (hold i hi))
end
set_option maxHeartbeats 1000000 in
theorem skputX (base ks M : Nat) (bad z : Int) (v : Value) (out : List Int) (w : World) (h : Snk w base ks v out M bad) (hz : 0 ≤ z ∧ z < 256) (hm : out.length ≤ 100000000) :
    Calls Try.prog 24 #[.pointer (some ⟨ks, 0, none⟩), .int .u8 z] w fun r w' => r = .returned (.tuple #[]) ∧ ∃ v', Snk w' base ks v' (skO M out bad z) M (skE M out bad) ∧ KeepS ks v w v' w' := by
  have H := Lib.hid h
  have h0 := h.c0
  have h1 := h.c1
  have h2 := h.c2
  have hf := h.fr 0
  have hf2 := h.fr 2
  obtain ⟨A2, c2, hv, _⟩ := h.row.byt
  have HV := Lib.hid hv
  rw [hv] at h0
  clear h hv
  by_cases he : bad = 0
  · subst he
    by_cases hlt : out.length < M
    · have hd : ¬ ((out.length : Int) ≥ M) := by omega
      have HO : Hid (skO M out 0 z = out ++ [z]) := Lib.hid (by unfold skO; rw [if_pos ⟨rfl, hlt⟩])
      have HE : Hid (skE M out 0 = 0) := Lib.hid (by unfold skE; rw [if_neg (by omega)])
      have HAP := Lib.hid (fun nq => (H.out.drewN nq).roomX z hz hm)
      rw [HV.out] at HAP
      go_enter Try.func24, Try.ntmps24
      go_wp2_with fail
      go_quiet (fail)
      go_wp2_with (first
        | (at_builtin; obtain ⟨v6, w6, hrun, hs6, hb6, hf6, hk6, A6, c6, rfl⟩ := HAP.out nq; refine Lib.wpList_append_run_sl _ rfl (.tmp 33) (.tmp 35) 23 rfl _ _ rfl rfl hrun ?_; clear hrun; have HS6 := Lib.hid hs6; have HB6 := Lib.hid hb6; clear hs6 hb6))
      (try simp only [Exit.inBlock, Exit.then])
      refine ⟨rfl, _, results_none rfl _ _ _, ?_⟩
      rw [HO.out, HE.out, HV.out]
      exact ⟨rfl, _, HS6.out, ⟨HB6.out.os, HB6.out.tape, HB6.out.output, HB6.out.size, HB6.out.block, HB6.out.own⟩⟩
    · have hd : (out.length : Int) ≥ M := by omega
      have HO : Hid (skO M out 0 z = out) := Lib.hid (by unfold skO; rw [if_neg (by omega)])
      have HE : Hid (skE M out 0 = 7) := Lib.hid (by unfold skE; rw [if_pos (by omega)])
      go_enter Try.func24, Try.ntmps24
      go_wp2_with fail
      go_quiet (fail)
      go_wp2_with fail
      (try simp only [Exit.inBlock, Exit.then])
      refine ⟨rfl, _, results_none rfl _ _ _, ?_⟩
      rw [HO.out, HE.out]
      have hx := (H.out.drewN nq).setX 2 (.int .i64 7)
      exact ⟨rfl, _, (H.out.drewN nq).setBad 7, ⟨hx.os, hx.tape, hx.output, hx.size, hx.block, hx.own⟩⟩
  · have hne : (bad == 0) = false := beq_eq_false_iff_ne.2 he
    have HO : Hid (skO M out bad z = out) := Lib.hid (by unfold skO; rw [if_neg (by omega)])
    have HE : Hid (skE M out bad = bad) := Lib.hid (by unfold skE; rw [if_neg (by omega)])
    clear he
    go_enter Try.func24, Try.ntmps24
    go_wp2_with fail
    go_quiet (fail)
    go_wp2_with fail
    (try simp only [Exit.inBlock, Exit.then])
    refine ⟨rfl, _, results_none rfl _ _ _, ?_⟩
    rw [HO.out, HE.out]
    exact ⟨rfl, _, H.out.drewN nq, (KeepS.refl ks v w).drewN nq⟩
theorem skfailX (base ks M : Nat) (e : Int) (v : Value) (out : List Int) (w : World) (h : Snk w base ks v out M 0) :
    Calls Try.prog 22 #[.pointer (some ⟨ks, 0, none⟩), .int .i64 e] w fun r w' => r = .returned (.tuple #[]) ∧ Snk w' base ks v out M e ∧ KeepS ks v w v w' := by
  have H := Lib.hid h
  have h2 := h.c2
  have hf2 := h.fr 2
  clear h
  go_enter Try.func22, Try.ntmps22
  go_wp2_with fail
  (try simp only [Exit.inBlock, Exit.then])
  refine ⟨rfl, _, results_none rfl _ _ _, ?_⟩
  exact ⟨rfl, H.out.setBad e, H.out.setX 2 _⟩

/-- A row of bytes that stays: in a block of its own, not the sink's, not the table's. -/
def RwS (w : World) (base ks : Nat) (v tv val : Value) (zs : List Int) : Prop :=
  ∃ b c, val = .slice (some ⟨b, 0, none⟩) zs.length c ∧ 0 < zs.length ∧ zs.length ≤ c ∧ (∀ z ∈ zs, 0 ≤ z ∧ z < 256) ∧ base ≤ b ∧ b < w.heap.size ∧ b ≠ ks ∧ v.ownBlock ≠ some b ∧ tv.ownBlock ≠ some b ∧ ∀ i, i < zs.length → w.cell? ⟨b, i, none⟩ = some (.int .u8 (zs.getD i 0))
section
variable {w w' : World} {base ks M : Nat} {v v' tv tv' val : Value} {zs out : List Int} {bad : Int}
theorem RwS.put (h : RwS w base ks v tv val zs) (hk : KeepS ks v w v' w') : RwS w' base ks v' tv val zs := by
  obtain ⟨b, c, h1, h2, h3, h4, h5, h6, h7, h8, h9, hc⟩ := h
  refine ⟨b, c, h1, h2, h3, h4, h5, Nat.lt_of_lt_of_le h6 hk.size, h7, fun e => ?_, h9, fun i hi => ?_⟩
  · rcases hk.own b e with h | h
    · exact h8 h
    · omega
  · exact (World.cell?_of_block (a := ⟨b, i, none⟩) (hk.block b h6 h7 h8)).trans (hc i hi)
theorem RwS.low (h : RwS w base ks v tv val zs) (hb : Below w.heap.size w w') : RwS w' base ks v tv val zs := by
  obtain ⟨b, c, h1, h2, h3, h4, h5, h6, h7, h8, h9, hc⟩ := h
  exact ⟨b, c, h1, h2, h3, h4, h5, Nat.lt_of_lt_of_le h6 hb.size, h7, h8, h9, fun i hi => (World.cell?_of_block (a := ⟨b, i, none⟩) (hb.block b h6)).trans (hc i hi)⟩
theorem RwS.tab (h : RwS w base ks v tv val zs) (hk : KeepX tv w tv' w') : RwS w' base ks v tv' val zs := by
  obtain ⟨b, c, h1, h2, h3, h4, h5, h6, h7, h8, h9, hc⟩ := h
  refine ⟨b, c, h1, h2, h3, h4, h5, Nat.lt_of_lt_of_le h6 hk.size, h7, h8, fun e => ?_, fun i hi => (World.cell?_of_block (a := ⟨b, i, none⟩) (hk.block b h6 h9)).trans (hc i hi)⟩
  rcases hk.own b e with h | h
  · exact h9 h
  · omega
theorem RwS.clear (h : RwS w base ks v tv val zs) : RwS w base ks v (.slice none 0 0) val zs := by
  obtain ⟨b, c, h1, h2, h3, h4, h5, h6, h7, h8, h9, hc⟩ := h
  exact ⟨b, c, h1, h2, h3, h4, h5, h6, h7, h8, (fun e => by cases e), hc⟩
theorem RwS.byt (h : RwS w base ks v tv val zs) : ∃ b c, val = .slice (some ⟨b, 0, none⟩) zs.length c ∧ Byt w w.heap.size (some ⟨b, 0, none⟩) zs.length c zs ∧ ∀ i, i < zs.length → w.cell? ⟨b, i, none⟩ = some (.int .u8 (zs.getD i 0)) := by
  obtain ⟨b, c, h1, h2, h3, h4, h5, h6, h7, h8, h9, hc⟩ := h
  exact ⟨b, c, h1, ⟨rfl, h3, h4, fun _ => ⟨b, 0, rfl, h6, fun i hi => by rw [Nat.zero_add]; exact hc i hi⟩⟩, hc⟩
/-- A row of one's own made since. -/
theorem RwS.new {p : Nat} (h : Mine w' base val p zs) (hp : 0 < p) (hn : ∀ b, val.ownBlock = some b → w.heap.size ≤ b) (hks : ks < w.heap.size) (hv : ∀ b, v.ownBlock = some b → b < w.heap.size) (ht : ∀ b, tv.ownBlock = some b → b < w.heap.size) : RwS w' base ks v tv val zs := by
  obtain ⟨b, c, rfl, h1, h2, _, h3⟩ := h.block8 hp
  have hb := hn b rfl
  have hl := h.len
  have hr := h.rng
  obtain ⟨A, c', e, hy⟩ := h.byt
  injection e with e1 e2 e3
  refine ⟨b, c, by rw [hl], by omega, by rw [hl, e3]; exact hy.cap, hr, h1, h2, by omega, (fun e => by have := hv b e; omega), (fun e => by have := ht b e; omega), fun i hi => h3 i (by omega)⟩
end
theorem infoB : (Try.prog.info? 23).map (fun i => (i.zero, i.size, i.bytes)) = some (some (.slice none 0 0), 1, 24) := by kernel_rfl
theorem OwnV.bytes {w : World} {base : Nat} {v : Value} {xs : List Value} (h : OwnV w base 23 v xs) (ty : TypeId) (g : Nat) (A : Option Addr) (n c : Nat) (hu : w.cell? ⟨g, 0, none⟩ = some (.slice A n c)) (hl : xs.length ≤ 1000000000) (hbase : base ≤ w.heap.size) :
    ∃ v' w', (Builtin.append_ #[58, 58] ty #[v, .slice (some ⟨g, 0, none⟩) 1 1]).run Try.prog w = .ok v' w' ∧ OwnV w' base 23 v' (xs ++ [.slice A n c]) ∧ KeepX v w v' w' ∧ ∃ A c, v' = .slice A (xs.length + 1) c := by
  obtain ⟨i0, hi, hz0, hz1, hz2⟩ := info_parts infoB
  exact h.append1 58 ty i0 _ 24 Try.underlying58 hi hz0 hz1 hz2 rfl (by omega) g _ hu rfl hl hbase
/-- What the reader of codes knows. -/
structure DeS (w0 w : World) (base ks : Nat) (v tv lv : Value) (vals : List Value) (T : List (List Int)) (last out : List Int) (M : Nat) (bad : Int) : Prop where
  snk : Snk w base ks v out M bad
  tab : OwnV w base 23 tv vals
  len : vals.length = T.length
  rows : ∀ k (h : k < vals.length), RwS w base ks v tv (vals[k]'h) (T.getD k [])
  lst : (last = [] ∧ lv = .slice none 0 0) ∨ RwS w base ks v tv lv last
  tk : tv.ownBlock ≠ some ks
  vt : ∀ b, v.ownBlock = some b → tv.ownBlock ≠ some b
  low : Below base w0 w
section
variable {w0 w w' : World} {base ks M : Nat} {v v' tv tv' lv : Value} {vals : List Value} {T : List (List Int)} {last out out' : List Int} {bad bad' : Int}
theorem DeS.put (h : DeS w0 w base ks v tv lv vals T last out M bad) (hk : KeepS ks v w v' w') (hs : Snk w' base ks v' out' M bad') : DeS w0 w' base ks v' tv lv vals T last out' M bad' := by
  refine ⟨hs, h.tab.same fun b hb => hk.block b (h.tab.lt b hb).1 (fun e => h.tk (by rw [← e]; exact hb)) (fun e => h.vt b e hb), h.len, fun k hk2 => (h.rows k hk2).put hk, ?_, h.tk, fun b hb hc => ?_, h.low.trans (hk.below h.snk)⟩
  · rcases h.lst with h1 | h1
    · exact .inl h1
    · exact .inr (h1.put hk)
  · rcases hk.own b hb with h1 | h1
    · exact h.vt b h1 hc
    · have := (h.tab.lt b hc).1; omega
theorem DeS.lower (h : DeS w0 w base ks v tv lv vals T last out M bad) (hb : Below w.heap.size w w') : DeS w0 w' base ks v tv lv vals T last out M bad := by
  refine ⟨h.snk.more hb, h.tab.low hb, h.len, fun k hk2 => (h.rows k hk2).low hb, ?_, h.tk, h.vt, h.low.trans (hb.mono h.snk.base_le)⟩
  rcases h.lst with h1 | h1
  · exact .inl h1
  · exact .inr (h1.low hb)
theorem DeS.drewN (h : DeS w0 w base ks v tv lv vals T last out M bad) (k : Nat) : DeS w0 (w.drewN k) base ks v tv lv vals T last out M bad := h.lower (below_drewN (Below.refl _ _) k)
theorem DeS.clear (h : DeS w0 w base ks v tv lv vals T last out M bad) : DeS w0 w base ks v (.slice none 0 0) (.slice none 0 0) [] [] [] out M bad :=
  ⟨h.snk, OwnV.nil _ _ _, rfl, (fun k hk => absurd hk (Nat.not_lt_zero _)), .inl ⟨rfl, rfl⟩, (fun e => by cases e), (fun b _ e => by cases e), h.low⟩
theorem DeS.last_ (h : DeS w0 w base ks v tv lv vals T last out M bad) {x : Value} {xs : List Int} (hx : RwS w base ks v tv x xs) : DeS w0 w base ks v tv x vals T xs out M bad :=
  ⟨h.snk, h.tab, h.len, h.rows, .inr hx, h.tk, h.vt, h.low⟩
theorem DeS.enter (h : DeS w0 w base ks v tv lv vals T last out M bad) (hk : KeepX tv w tv' w') {r : Value} {rs : List Int} (hr : RwS w base ks v tv r rs) (ht : OwnV w' base 23 tv' (vals ++ [r])) : DeS w0 w' base ks v tv' lv (vals ++ [r]) (T ++ [rs]) last out M bad := by
  have hks := h.snk.lt
  refine ⟨⟨(hk.block ks hks h.tk).trans h.snk.cell, h.snk.row.keepX hk h.vt, h.snk.own, h.snk.lo⟩, ht, by simp [h.len], fun k hk2 => ?_, ?_, fun e => ?_, fun b hb hc => ?_, h.low.trans (hk.below h.snk.base_le (fun b hb => (h.tab.lt b hb).2))⟩
  · rw [List.length_append, List.length_singleton] at hk2
    by_cases hlt : k < vals.length
    · rw [List.getElem_append_left hlt]
      have e : (T ++ [rs]).getD k [] = T.getD k [] := by
        simp only [List.getD]
        rw [List.getElem?_append_left (by rw [← h.len]; exact hlt)]
      rw [e]
      exact (h.rows k hlt).tab hk
    · obtain rfl : k = vals.length := by omega
      have e : (T ++ [rs]).getD vals.length [] = rs := by rw [h.len]; simp [List.getD]
      rw [e, List.getElem_append_right (Nat.le_refl _)]
      simp only [Nat.sub_self, List.getElem_cons_zero]
      exact hr.tab hk
  · rcases h.lst with h1 | h1
    · exact .inl h1
    · exact .inr (h1.tab hk)
  · rcases hk.own ks e with h1 | h1
    · exact h.tk h1
    · omega
  · rcases hk.own b hc with h1 | h1
    · exact h.vt b hb h1
    · have := h.snk.row.lt b hb; omega
end
end Go.Proofs.Ytpnnejedfccckaa
