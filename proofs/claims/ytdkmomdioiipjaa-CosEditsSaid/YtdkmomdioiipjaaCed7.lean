/- Contracts of functions that the law calls, and what they lean on (a part). -/
import Derived.Laws.IdiomStrings
import Derived.Lib.SlBytesConst
import Derived.Test.YtdkmomdioiipjaaCed2
namespace Go.Proofs.Ytdkmomdioiipjaa
section
open Go.RowKit
set_option linter.unusedVariables false
set_option maxRecDepth 100000
/-- A block of bytes that the call made. -/
theorem byt_lit (w : World) (fr : Nat × Nat) (zs : List Int) (hr : ∀ z ∈ zs, 0 ≤ z ∧ z < 256) (n : Nat) (hn : zs.length = n) (C : Array Value) (hC : C = (zs.map (Value.int .u8)).toArray) :
    Byt (w.alloc (.cells C 5 fr)) (w.heap.size + 1) (some ⟨w.heap.size, 0, none⟩) n n zs := by
  refine ⟨hn, Nat.le_refl _, hr, fun _ => ⟨w.heap.size, 0, rfl, by omega, fun i hi => ?_⟩⟩
  rw [World.cell?_alloc_mark, hC, Nat.zero_add]
  simp [List.getD, hn, hi]
end

section
open Go.RowKit
set_option linter.unusedVariables false
set_option maxRecDepth 100000
theorem Mine.kept {w w' : World} {base p : Nat} {v : Value} {zs : List Int} (h : Mine w base v p zs) (hb : Below w.heap.size w w') : Mine w' base v p zs := by
  refine ⟨⟨h.own.1, ?_⟩, h.rng⟩
  rcases h.own.2 with h0 | ⟨b, cap, cur, hv, hbb, hh, hr⟩
  · exact .inl h0
  · refine .inr ⟨b, cap, cur, hv, hbb, ?_, hr⟩
    have hlt : b < w.heap.size := by
      rcases Nat.lt_or_ge b w.heap.size with hlt | hge
      · exact hlt
      · rw [Array.getElem?_eq_none hge] at hh; cases hh
    rw [hb.block b hlt]
    exact hh
theorem byt_lit0 (w : World) (z : Int) (hz : 0 ≤ z ∧ z < 256) : Byt (w.alloc (.cells #[.int .u8 z] 5)) (w.heap.size + 1) (some ⟨w.heap.size, 0, none⟩) 1 1 [z] :=
  byt_lit w (0, 0) [z] (fun y hy => by simp at hy; subst hy; exact hz) 1 rfl _ rfl
set_option maxRecDepth 100000 in
set_option maxHeartbeats 1000000 in
theorem refCopy (A : Option Addr) (n c : Nat) (zs : List Int) (w : World) (hb : Byt w w.heap.size A n c zs) (hn : n ≤ 100000000) :
    Calls Try.prog 48 #[.slice A n c] w fun e w' => ∃ v, e = .returned v ∧ Mine w' w.heap.size v n zs ∧ Below w.heap.size w w' := by
  have HB := Lib.hid hb
  clear hb
  go_enter Try.func48, Try.ntmps48
  go_wp2
  go_loopw [3, 4] (fun v i wr => ∃ k : Nat, k ≤ n ∧ i = .int .i64 k ∧ Hid (Mine wr w.heap.size v k (zs.take k)) ∧ Hid (Below w.heap.size w wr)) (fun _ i _ => n - (intOf i).toNat)
  case atStart => exact ⟨0, Nat.zero_le _, rfl, Mine.nil _ _, Below.refl _ _⟩
  case round =>
    obtain ⟨k, hk, rfl, hmi, hbe⟩ := hrel
    by_cases hlt : k < n
    · have hby := HB.out.below hbe.out (Nat.le_refl _)
      obtain ⟨b, o, rfl, _, hc⟩ := hby.cell (by omega)
      have ck := hc k hlt
      have hgz := HB.out.getD k
      have HT : Hid (zs.take (k + 1) = zs.take k ++ [zs.getD k 0]) := Lib.hid (take_snocZ zs k (by rw [HB.out.len]; exact hlt))
      obtain ⟨z, hz⟩ : ∃ z, zs.getD k 0 = z := ⟨_, rfl⟩
      rw [hz] at ck hgz HT
      have HAP := Lib.hid ((hmi.out.kept ((Below.refl _ _).alloc (Nat.le_refl _) (.cells #[.int .u8 z] 5))).append (byt_lit0 wr z hgz) 23 (by omega) (Nat.le_trans hbe.out.size (by simp)))
      obtain ⟨A6, c6, rfl, _⟩ := hmi.out.byt
      clear hby hc hz
      go_wp2_with (first
        | (at_builtin; obtain ⟨v6, w6, hrun, hmi6, hbe6⟩ := HAP.out; refine Lib.wpList_append_run_sl _ rfl (.tmp 11) (.tmp 16) 23 rfl _ _ rfl rfl hrun ?_; clear hrun; have HBE6 := Lib.hid hbe6; have HMI6 := Lib.hid hmi6; clear hbe6 hmi6))
      go_roundw
      case rel => exact ⟨k + 1, by omega, by go_num, Lib.hid (by rw [HT.out]; exact HMI6.out), Lib.hid ((hbe.out.alloc hbe.out.size _).trans HBE6.out)⟩
      case measure => simp [intOf]; omega
    · obtain rfl : k = n := by omega
      rw [List.take_of_length_le (by rw [HB.out.len]; exact Nat.le_refl _)] at hmi
      go_wp2
      go_ret
      exact ⟨_, rfl, hmi.out, hbe.out⟩
end

section
open Go.RowKit
set_option linter.unusedVariables false
set_option maxRecDepth 100000
/-- Of what was there, the row's own block alone may have changed; the new row lies there or in new memory. -/
structure KeepX (v : Value) (w : World) (v' : Value) (w' : World) : Prop where
  os : w'.os = w.os
  tape : w'.tape = w.tape
  output : w'.output = w.output
  size : w.heap.size ≤ w'.heap.size
  block : ∀ i, i < w.heap.size → v.ownBlock ≠ some i → w'.heap[i]? = w.heap[i]?
  own : ∀ b, v'.ownBlock = some b → v.ownBlock = some b ∨ w.heap.size ≤ b
section
variable {v v' v'' : Value} {w w' w'' : World}
theorem KeepX.refl (v : Value) (w : World) : KeepX v w v w := ⟨rfl, rfl, rfl, Nat.le_refl _, fun _ _ _ => rfl, fun _ h => .inl h⟩
theorem KeepX.trans (h : KeepX v w v' w') (k : KeepX v' w' v'' w'') : KeepX v w v'' w'' := by
  refine ⟨k.os.trans h.os, k.tape.trans h.tape, k.output.trans h.output, Nat.le_trans h.size k.size, fun i hi hne => (k.block i (Nat.lt_of_lt_of_le hi h.size) (fun e => ?_)).trans (h.block i hi hne), fun b hb => ?_⟩
  · rcases h.own i e with h1 | h1
    · exact hne h1
    · omega
  · rcases k.own b hb with h1 | h1
    · exact h.own b h1
    · exact .inr (Nat.le_trans h.size h1)
theorem KeepX.below (h : KeepX v w v' w') {base : Nat} (hb : base ≤ w.heap.size) (ho : ∀ b, v.ownBlock = some b → base ≤ b) : Below base w w' :=
  ⟨h.os, h.tape, h.output, h.size, fun k hk => h.block k (Nat.lt_of_lt_of_le hk hb) (fun e => by have := ho k e; omega)⟩
end
theorem KeepX.ofBelow {v : Value} {w w' : World} (hb : Below w.heap.size w w') : KeepX v w v w' := ⟨hb.os, hb.tape, hb.output, hb.size, fun i hi _ => hb.block i hi, fun b h => .inl h⟩
/-- A row of one's own, of any cells of one place each. -/
def OwnV (w : World) (base : Nat) (e : TypeId) (v : Value) (xs : List Value) : Prop := w.ownsRow base e 1 v xs.length xs
section
variable {w w' : World} {base : Nat} {e : TypeId} {v v' : Value} {xs : List Value}
theorem OwnV.lt (h : OwnV w base e v xs) (b : Nat) (hb : v.ownBlock = some b) : b < w.heap.size ∧ base ≤ b := by
  rcases h.2 with ⟨rfl, _⟩ | ⟨b', cap, cur, rfl, h2, hh, _⟩
  · cases hb
  · injection hb with hb
    dsimp only at hb
    subst hb
    refine ⟨?_, h2⟩
    rcases Nat.lt_or_ge b' w.heap.size with hlt | hge
    · exact hlt
    · rw [Array.getElem?_eq_none hge] at hh; cases hh
theorem OwnV.same (h : OwnV w base e v xs) (hk : ∀ b, v.ownBlock = some b → w'.heap[b]? = w.heap[b]?) : OwnV w' base e v xs := by
  refine ⟨h.1, ?_⟩
  rcases h.2 with h0 | ⟨b, cap, cur, hv, hb, hh, hr⟩
  · exact .inl h0
  · exact .inr ⟨b, cap, cur, hv, hb, (hk b (by rw [hv]; rfl)).trans hh, hr⟩
theorem OwnV.low (h : OwnV w base e v xs) (hb : Below w.heap.size w w') : OwnV w' base e v xs := h.same fun b hb' => hb.block b (h.lt b hb').1
theorem OwnV.shape (h : OwnV w base e v xs) : ∃ A c, v = .slice A xs.length c := by
  rcases h.2 with ⟨rfl, h0⟩ | ⟨b, cap, cur, hv, _⟩
  · exact ⟨none, 0, by rw [h0]⟩
  · exact ⟨_, cap, hv⟩
theorem OwnV.cell (h : OwnV w base e v xs) (h0 : 0 < xs.length) : ∃ g c, v = .slice (some ⟨g, 0, none⟩) xs.length c ∧ g < w.heap.size ∧ ∀ i (hi : i < xs.length), w.cell? ⟨g, i, none⟩ = some (xs[i]'hi) := by
  rcases h.2 with ⟨rfl, h1⟩ | ⟨g, cap, cur, rfl, hb, hh, hn, hm, hs, ht⟩
  · omega
  · refine ⟨g, cap, rfl, (h.lt g rfl).1, fun i hi => ?_⟩
    rw [cell_of_row w g i cur e (0, 0) hh]
    rw [Nat.mul_one] at ht
    have := congrArg (·[i]?) ht
    simp only [List.getElem?_take_of_lt hi, List.getElem?_eq_getElem hi] at this
    rw [← this]
    simp
theorem OwnV.append1 (h : OwnV w base e v xs) (t ty : TypeId) (i : TypeInfo) (z : Value) (bytes : Nat) (ht : Try.prog.underlying t = some (.slice e)) (hi : Try.prog.info? e = some i) (hz : i.zero = some z)
    (hsize : i.size = 1) (hby : i.bytes = bytes) (hzs : z.cells.size = 1) (hb64 : bytes ≤ 64) (g : Nat) (u : Value) (hu : w.cell? ⟨g, 0, none⟩ = some u) (h1 : u.oneCell' = true) (hl : xs.length ≤ 1000000000) (hbase : base ≤ w.heap.size) :
    ∃ v' w', (Builtin.append_ #[t, t] ty #[v, .slice (some ⟨g, 0, none⟩) 1 1]).run Try.prog w = .ok v' w' ∧ OwnV w' base e v' (xs ++ [u]) ∧ KeepX v w v' w' ∧ ∃ A c, v' = .slice A (xs.length + 1) c := by
  obtain ⟨v', w', hr, hown, hgr, _, hat⟩ := run_append_own_at (P := Try.prog) w base t ty e i z 1 bytes ht hi hz hsize hby hzs (by omega) v xs.length xs h ⟨g, 0, none⟩ 1 1 [u] rfl
    (by
      intro j u' hj
      obtain rfl : j = 0 := by
        have := (List.getElem?_eq_some_iff.1 hj).1
        simp at this; omega
      simp at hj
      subst hj
      simpa [Addr.add] using hu)
    (by simpa using h1) (by simp only [maxLen]; omega)
    (by have : (xs.length + 1) * bytes ≤ (xs.length + 1) * 64 := Nat.mul_le_mul_left _ hb64; omega) hbase
  have hown2 : OwnV w' base e v' (xs ++ [u]) := by
    unfold OwnV
    rw [List.length_append]
    exact hown
  refine ⟨v', w', hr, hown2, ⟨hgr.os, hgr.tape, hgr.output, hgr.size, fun k hk hne => hgr.block k hk (fun e => hne e.symm), fun b hb => ?_⟩, ?_⟩
  · rcases hat with h1 | h1
    · exact .inl (by rw [← h1, hb])
    · rw [hb] at h1; injection h1 with h1; exact .inr (by omega)
  · obtain ⟨A, c, e1⟩ := hown2.shape
    exact ⟨A, c, by rw [e1, List.length_append]; rfl⟩
end
end
end Go.Proofs.Ytdkmomdioiipjaa
