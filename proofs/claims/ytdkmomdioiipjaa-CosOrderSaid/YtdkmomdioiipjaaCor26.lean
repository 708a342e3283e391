/- Contracts of functions that the law calls, and what they lean on (a part). -/
import Derived.Test.YtdkmomdioiipjaaCor20
import Derived.Test.YtdkmomdioiipjaaCor24
import Derived.Test.YtdkmomdioiipjaaCor25
namespace Go.Proofs.Ytdkmomdioiipjaa
section
open Go.RowKit Go.Sort
set_option linter.unusedVariables false
set_option maxRecDepth 100000
section
theorem EnsR.drop {w : World} {S : Nat → Prop} : ∀ (l : Ens) (g o n : Nat), EnsR w S l g o → EnsR w S (l.dropN n) g (o + n * 6)
  | l, g, o, 0, h => by cases l <;> simpa [Ens.dropN] using h
  | .nil, g, o, n + 1, h => by rw [Ens.dropN]; unfold EnsR; trivial
  | .cons s x xs, g, o, n + 1, h => by
    unfold EnsR at h
    rw [Ens.dropN, show o + (n + 1) * 6 = o + 6 + n * 6 by omega]
    exact EnsR.drop xs g (o + 6) n h.2
theorem EnsR.take {w : World} {S : Nat → Prop} : ∀ (l : Ens) (g o n : Nat), EnsR w S l g o → EnsR w S (l.takeN n) g o
  | l, g, o, 0, h => by cases l <;> (rw [Ens.takeN]; unfold EnsR; trivial)
  | .nil, g, o, n + 1, h => by rw [Ens.takeN]; unfold EnsR; trivial
  | .cons s x xs, g, o, n + 1, h => by
    unfold EnsR at h
    rw [Ens.takeN]
    unfold EnsR
    exact ⟨h.1, EnsR.take xs g (o + 6) n h.2⟩
theorem Ens.drop_len : ∀ (l : Ens) (n : Nat), (l.dropN n).len = l.len - n
  | l, 0 => by cases l <;> simp [Ens.dropN]
  | .nil, n + 1 => by simp [Ens.dropN, Ens.len]
  | .cons s x xs, n + 1 => by rw [Ens.dropN, Ens.drop_len xs n, Ens.len]; omega
theorem Ens.takeN_len : ∀ (l : Ens) (n : Nat), (l.takeN n).len = min n l.len
  | l, 0 => by cases l <;> simp [Ens.takeN, Ens.len]
  | .nil, n + 1 => by simp [Ens.takeN, Ens.len]
  | .cons s x xs, n + 1 => by rw [Ens.takeN, Ens.len, Ens.takeN_len xs n, Ens.len]; omega
theorem Ens.drop_toL : ∀ (l : Ens) (n : Nat), (l.dropN n).toL = l.toL.drop n
  | l, 0 => by cases l <;> simp [Ens.dropN]
  | .nil, n + 1 => by simp [Ens.dropN, Ens.toL]
  | .cons s x xs, n + 1 => by rw [Ens.dropN, Ens.drop_toL xs n, Ens.toL, List.drop_succ_cons]
theorem Ens.take_toL : ∀ (l : Ens) (n : Nat), (l.takeN n).toL = l.toL.take n
  | l, 0 => by cases l <;> simp [Ens.takeN, Ens.toL]
  | .nil, n + 1 => by simp [Ens.takeN, Ens.toL]
  | .cons s x xs, n + 1 => by rw [Ens.takeN, Ens.toL, Ens.take_toL xs n, Ens.toL, List.take_succ_cons]
theorem Ens.app_toL : ∀ (a b : Ens), (a.app b).toL = a.toL ++ b.toL
  | .nil, b => rfl
  | .cons s x xs, b => by rw [Ens.app, Ens.toL, Ens.app_toL xs b, Ens.toL]; rfl
theorem Ens.toL_inj {a b : Ens} (h : a.toL = b.toL) : a = b := by rw [← Ens.of_to a, ← Ens.of_to b, h]
/-- The second part ahead of the first. -/
def turnE (l : Ens) (n : Nat) : Ens := (l.dropN n).app (l.takeN n)
theorem turnE_len (l : Ens) (n : Nat) (h : n ≤ l.len) : (turnE l n).len = l.len := by unfold turnE; rw [Ens.app_len, Ens.drop_len, Ens.takeN_len]; omega
theorem turnE_mem (l : Ens) (n : Nat) (p : KV) : p ∈ (turnE l n).toL ↔ p ∈ l.toL := by
  unfold turnE
  rw [Ens.app_toL, Ens.drop_toL, Ens.take_toL, List.mem_append, or_comm, ← List.mem_append, List.take_append_drop]
/-- Keys, each once. -/
def KeyU (l : List KV) : Prop := l.Pairwise (fun a b => a.1 ≠ b.1)
theorem keyU_filter : ∀ (l : List KV) (t : ByteArray), KeyU l → (l.filter (fun p => decide (p.1 = t))).length ≤ 1
  | [], t, _ => by simp
  | p :: l, t, h => by
    obtain ⟨h1, h2⟩ := List.pairwise_cons.1 h
    by_cases hp : p.1 = t
    · have h0 : l.filter (fun p => decide (p.1 = t)) = [] := by
        rw [List.filter_eq_nil_iff]
        intro q hq he
        exact h1 q hq (hp.trans (of_decide_eq_true he).symm)
      rw [List.filter_cons_of_pos (by simpa using hp), h0]; simp
    · rw [List.filter_cons_of_neg (by simpa using hp)]
      exact keyU_filter l t h2
theorem lastV_turn (a b : List KV) (t : ByteArray) (h : KeyU (a ++ b)) : lastV (b ++ a) t = lastV (a ++ b) t := by
  have hl := keyU_filter (a ++ b) t h
  unfold lastV
  rw [List.filter_append] at hl ⊢
  rw [List.filter_append]
  rw [List.length_append] at hl
  cases hA : a.filter (fun p => decide (p.1 = t)) with
  | nil => simp
  | cons x xs =>
    cases hB : b.filter (fun p => decide (p.1 = t)) with
    | nil => simp
    | cons y ys => rw [hA, hB] at hl; simp at hl; omega
theorem ss_nil : SS (Ens.nil).toL := List.Pairwise.nil
theorem dict_turn (l : Ens) (n : Nat) (h : KeyU l.toL) : dictF (turnE l n) .nil = dictF l .nil := by
  refine Ens.toL_inj (ss_ext _ _ (dict_ss _ _ ss_nil) (dict_ss _ _ ss_nil) (fun t => ?_))
  rw [dict_lk _ _ _ ss_nil, dict_lk _ _ _ ss_nil]
  have e : lastV (turnE l n).toL t = lastV l.toL t := by
    unfold turnE
    rw [Ens.app_toL, Ens.drop_toL, Ens.take_toL, lastV_turn _ _ _ (by rw [List.take_append_drop]; exact h), List.take_append_drop]
  rw [e]
theorem lk_mem : ∀ (l : List KV) (p : KV), KeyU l → p ∈ l → lastV l p.1 = some p
  | q :: l, p, h, hp => by
    obtain ⟨h1, h2⟩ := List.pairwise_cons.1 h
    rw [lastV_cons]
    rcases List.mem_cons.1 hp with rfl | hp
    · rw [if_pos rfl]
      have : lastV l p.1 = none := by
        unfold lastV
        rw [List.filter_eq_nil_iff.2]
        · rfl
        · intro q hq he
          exact h1 q hq (of_decide_eq_true he).symm
      rw [this]; rfl
    · rw [if_neg (h1 p hp)]
      exact lk_mem l p h2 hp
theorem dict_get (l : Ens) (s : ByteArray) (x : Ob) (h : KeyU l.toL) (hp : (s, x) ∈ l.toL) (hk : x.kind ≠ 0) : lk (dictF l .nil).toL s = some x := by
  rw [dict_lk _ _ _ ss_nil, lk_mem l.toL (s, x) h hp]
  simp [hk]
theorem with_new_len (s : ByteArray) (x : Ob) (d : Ens) (h : SS d.toL) (hn : ∀ p ∈ d.toL, p.1 ≠ s) : (withE s x d false).len = d.len + 1 := by
  rw [← Ens.toL_len, with_false s x d h, List.length_append, List.length_cons, ← Ens.toL_len]
  have key : ∀ (l : List KV), (∀ p ∈ l, p.1 ≠ s) → (l.filter (fun p => ltS p.1 s)).length + (l.filter (fun p => ltS s p.1)).length = l.length := fun l => by
    induction l with
    | nil => intro _; rfl
    | cons p l ih =>
      intro hl
      have h0 := ih (fun q hq => hl q (List.mem_cons_of_mem _ hq))
      have hps := hl p (List.mem_cons_self ..)
      by_cases h1 : ltS p.1 s = true
      · have h2 : ¬ ltS s p.1 = true := fun h2 => by
          have := ltS_trans h1 h2
          rw [ltS_irrefl] at this; cases this
        rw [List.filter_cons_of_pos (p := fun p : KV => ltS p.1 s) h1, List.filter_cons_of_neg (p := fun p : KV => ltS s p.1) h2, List.length_cons, List.length_cons]; omega
      · have h2 : ltS s p.1 = true := by
          rcases leS_lt.1 (show leS s p.1 = true from Decidable.byContradiction fun h3 => h1 (leS_no h3)) with h4 | h4
          · exact h4
          · exact absurd h4.symm hps
        rw [List.filter_cons_of_neg (p := fun p : KV => ltS p.1 s) h1, List.filter_cons_of_pos (p := fun p : KV => ltS s p.1) h2, List.length_cons, List.length_cons]; omega
  exact (Nat.add_assoc _ _ 1).symm.trans (congrArg (· + 1) (key d.toL hn))
theorem dict_len : ∀ (l acc : Ens), SS acc.toL → KeyU l.toL → (∀ p ∈ l.toL, p.2.kind ≠ 0) → (∀ p ∈ l.toL, ∀ q ∈ acc.toL, q.1 ≠ p.1) → (dictF l acc).len = acc.len + l.len
  | .nil, acc, _, _, _, _ => by rw [dictF, Ens.len]; rfl
  | .cons s x xs, acc, h, hu, hk, hn => by
    obtain ⟨u1, u2⟩ := List.pairwise_cons.1 hu
    have hx := hk (s, x) (List.mem_cons_self ..)
    rw [dictF, show decide (x.kind = 0) = false from decide_eq_false hx, dict_len xs _ (with_ss s x acc false h) u2 (fun p hp => hk p (List.mem_cons_of_mem _ hp)) (fun p hp q hq => ?_), with_new_len s x acc h (hn (s, x) (List.mem_cons_self ..)), Ens.len]
    · omega
    · rw [with_false s x acc h] at hq
      rcases List.mem_append.1 hq with hq | hq
      · exact hn p (List.mem_cons_of_mem _ hp) q (List.mem_filter.1 hq).1
      · rcases List.mem_cons.1 hq with rfl | hq
        · exact u1 p hp
        · exact hn p (List.mem_cons_of_mem _ hp) q (List.mem_filter.1 hq).1
end
/-- 'l[n:]', 'l[:n]' of entries. -/
def cutE (A : Option Addr) (c n : Nat) : Option Addr := if c = n then A else A.map (·.add (n * 6))
theorem size6 (w : World) : (Go.sizeOf 32).run Try.prog w = .ok 6 w := by kernel_rfl
theorem runE_cutR (W : World) (A : Option Addr) (len cap l : Nat) (hl : l ≤ len) : (Instr.slice 25 (.slice A len cap) (some (.int .i64 (l : Int))) none none).run Try.prog W = .ok (.slice (cutE A cap l) (len - l) (cap - l)) W := by
  have ht' : Try.prog.underlying 25 = some (.slice (Try.prog.elem 25)) := by kernel_rfl
  have he : Try.prog.elem 25 = 32 := by kernel_rfl
  rw [run_slice_l W 25 _ _ _ ht' .i64 _ (by omega) (by omega), he, size6]
  simp [Result.andThen, sliced, cutE]
theorem runE_cutL (W : World) (A : Option Addr) (len cap h : Nat) (hh : h ≤ cap) : (Instr.slice 25 (.slice A len cap) none (some (.int .i64 (h : Int))) none).run Try.prog W = .ok (.slice (cutE A cap 0) h cap) W := by
  have ht' : Try.prog.underlying 25 = some (.slice (Try.prog.elem 25)) := by kernel_rfl
  have he : Try.prog.elem 25 = 32 := by kernel_rfl
  rw [run_slice_h W 25 _ _ _ ht' .i64 _ (by omega) (by omega), he, size6]
  simp [Result.andThen, sliced, cutE]
theorem EnsV.cutR {w : World} {S : Nat → Prop} {l : Ens} {A : Option Addr} {c : Nat} (h : EnsV w S l A c) (n : Nat) (hn : n ≤ l.len) : EnsV w S (l.dropN n) (cutE A c n) (c - n) := by
  refine ⟨by rw [Ens.drop_len]; have := h.1; omega, fun h0 => ?_⟩
  rw [Ens.drop_len] at h0
  obtain ⟨g, o, rfl, hg, hr⟩ := h.2 (by omega)
  refine ⟨g, o + n * 6, ?_, hg, hr.drop l g o n⟩
  unfold cutE
  rw [if_neg (by have := h.1; omega)]
  simp [Addr.add]
theorem EnsV.cutL {w : World} {S : Nat → Prop} {l : Ens} {A : Option Addr} {c : Nat} (h : EnsV w S l A c) (n : Nat) (hn : n ≤ l.len) : EnsV w S (l.takeN n) (cutE A c 0) c := by
  refine ⟨by rw [Ens.takeN_len]; have := h.1; omega, fun h0 => ?_⟩
  rw [Ens.takeN_len] at h0
  obtain ⟨g, o, rfl, hg, hr⟩ := h.2 (by omega)
  refine ⟨g, o, ?_, hg, hr.take l g o n⟩
  unfold cutE
  rw [if_neg (by have := h.1; omega)]
  simp [Addr.add]
/-- A row of the region's own, of entries whose values lie in old blocks. -/
def OwnT (N : Nat) (w : World) (v : Value) (d : Ens) : Prop := ∃ cs, w.ownsRow N 32 6 v d.len cs ∧ EnsC w (fun g => g < N) d cs
theorem OwnT.keep {N : Nat} {w w' : World} {v : Value} {d : Ens} (h : OwnT N w v d) (hN : ∀ b, b < N → w'.heap[b]? = w.heap[b]?) (hb : ∀ b, v.ownBlock = some b → w'.heap[b]? = w.heap[b]?) : OwnT N w' v d := by
  obtain ⟨cs, h1, h2⟩ := h
  exact ⟨cs, row_sameN h1 hb, EnsC.keep hN (fun _ h => h) d cs h2⟩
theorem OwnT.lt {N : Nat} {w : World} {v : Value} {d : Ens} (h : OwnT N w v d) (b : Nat) (hb : v.ownBlock = some b) : b < w.heap.size ∧ N ≤ b := by
  obtain ⟨cs, h1, _⟩ := h
  exact row_ltN h1 b hb
theorem OwnT.shape {N : Nat} {w : World} {v : Value} {d : Ens} (h : OwnT N w v d) (hN : N ≤ w.heap.size) : ∃ A c, v = .slice A d.len c ∧ EnsV w (fun g => g < w.heap.size) d A c := by
  obtain ⟨cs, h1, h2⟩ := h
  obtain ⟨A, c, e, hc, hx⟩ := row_shapeN h1
  refine ⟨A, c, e, hc, fun h0 => ?_⟩
  obtain ⟨g, e1, hb, hl, hcell⟩ := hx h0
  exact ⟨g, 0, e1, hl, EnsC.row d cs g 0 (EnsC.keep (fun _ _ => rfl) (fun b hb => Nat.lt_of_lt_of_le hb hN) d cs h2) hcell⟩
theorem ensC_app {w : World} {S : Nat → Prop} : ∀ (a b : Ens) (cs ds : List Value), EnsC w S a cs → EnsC w S b ds → EnsC w S (a.app b) (cs ++ ds)
  | .nil, b, cs, ds, h, k => by
    have h2 : cs = [] := h
    subst h2
    exact k
  | .cons s x xs, b, cs, ds, h, k => by
    obtain ⟨c0, c1, c2, c3, c4, rest, e, hx, hr⟩ := h
    subst e
    exact ⟨c0, c1, c2, c3, c4, rest ++ ds, rfl, hx, ensC_app xs b rest ds hr k⟩
/-- Many entries more. -/
theorem OwnT.many {N : Nat} {w : World} {v : Value} {d l : Ens} {A : Option Addr} {c : Nat} (h : OwnT N w v d) (hl : EnsV w (fun g => g < N) l A c) (hlen : d.len + l.len ≤ 1000000000) (hN : N ≤ w.heap.size) :
    ∃ A' c' w', (Builtin.append_ #[25, 25] 25 #[v, .slice A l.len c]).run Try.prog w = .ok (.slice A' (d.len + l.len) c') w' ∧ OwnT N w' (.slice A' (d.len + l.len) c') (d.app l) ∧ KeepX v w (.slice A' (d.len + l.len) c') w' := by
  obtain ⟨cs, hr, hc⟩ := h
  obtain ⟨i0, hi, hz0, hz1, hz2⟩ := info_parts infoE
  rcases Nat.eq_zero_or_pos l.len with h0 | h0
  · have hnil : l = .nil := Ens.nil_of h0
    subst hnil
    cases A with
    | none =>
      have hc0 : c = 0 ∨ True := .inr trivial
      obtain ⟨Av, cv, e, _⟩ := row_shapeN hr
      have hrun := run_append_owned_none (P := Try.prog) (w := w) N 25 25 32 i0 6 Try.underlying25 hi v d.len cs hr
      have hrun2 : (Builtin.append_ #[25, 25] 25 #[v, .slice none 0 c]).run Try.prog w = .ok v w := by
        rcases hr.2 with ⟨rfl, hd0⟩ | ⟨g, cap, cur, rfl, _, _, hnc, _⟩
        · simp [Builtin.append_, run_underlying Try.underlying25, sizeOf, typeInfo, hi, Builtin.lenOf, Builtin.firstCells]
        · simp [Builtin.append_, run_underlying Try.underlying25, sizeOf, typeInfo, hi, Builtin.lenOf, Builtin.firstCells, hnc, storeCells]
      subst e
      refine ⟨Av, cv, w, hrun2, ⟨cs, by rw [Ens.app_nil]; exact hr, by rw [Ens.app_nil]; exact hc⟩, KeepX.refl _ _⟩
    | some a =>
      obtain ⟨v', w', hrun, hown, hgr, _, hat⟩ := run_append_own_at (P := Try.prog) w N 25 25 32 i0 _ 6 104 Try.underlying25 hi hz0 hz1 hz2 rfl (by omega) v d.len cs hr a 0 c [] rfl (fun j u hj => by simp at hj) (fun u hu => by cases hu) (by simp only [maxLen]; omega) (by omega) hN
      obtain ⟨Av, cv, rfl⟩ := own_slice hown
      have hk : KeepX v w (.slice Av (d.len + 0) cv) w' := ⟨hgr.os, hgr.tape, hgr.output, hgr.size, fun k hk hne => hgr.block k hk (fun e => hne e.symm), fun b hb => by
        rcases hat with h1 | h1
        · exact .inl (by rw [← h1, hb])
        · rw [hb] at h1; injection h1 with h1; exact .inr (by omega)⟩
      refine ⟨Av, cv, w', hrun, ⟨cs, by rw [Ens.app_nil]; simpa [Ens.len] using hown, ?_⟩, hk⟩
      rw [Ens.app_nil]
      exact EnsC.keep (fun b hb => hk.block b (Nat.lt_of_lt_of_le hb hN) (fun e => by have := (row_ltN hr b e).2; omega)) (fun _ h => h) d cs hc
  · obtain ⟨g, o, rfl, hg, hR⟩ := hl.2 h0
    obtain ⟨ds, hD, hat0, hdl, hd1⟩ := EnsR.cs l g o hR
    obtain ⟨v', w', hrun, hown, hgr, _, hat⟩ := run_append_own_at (P := Try.prog) w N 25 25 32 i0 _ 6 104 Try.underlying25 hi hz0 hz1 hz2 rfl (by omega) v d.len cs hr ⟨g, o, none⟩ l.len c ds hdl
      (fun j u hj => by
        have e : (⟨g, o, none⟩ : Addr).add j = ⟨g, o + j, none⟩ := by unfold Addr.add; split <;> simp_all
        rw [e]; exact hat0 j u hj) hd1 (by simp only [maxLen]; omega) (by omega) hN
    obtain ⟨Av, cv, rfl⟩ := own_slice hown
    have hk : KeepX v w (.slice Av (d.len + l.len) cv) w' := ⟨hgr.os, hgr.tape, hgr.output, hgr.size, fun k hk hne => hgr.block k hk (fun e => hne e.symm), fun b hb => by
      rcases hat with h1 | h1
      · exact .inl (by rw [← h1, hb])
      · rw [hb] at h1; injection h1 with h1; exact .inr (by omega)⟩
    have hold : ∀ b, b < N → w'.heap[b]? = w.heap[b]? := fun b hb => hk.block b (Nat.lt_of_lt_of_le hb hN) (fun e => by have := (row_ltN hr b e).2; omega)
    exact ⟨Av, cv, w', hrun, ⟨cs ++ ds, by rw [Ens.app_len]; exact hown, ensC_app d l cs ds (EnsC.keep hold (fun _ h => h) d cs hc) (EnsC.keep hold (fun _ h => h) l ds hD)⟩, hk⟩
theorem Ens.toL_get : ∀ (l : Ens) (i : Nat), l.toL[i]? = l.get? i
  | .nil, i => by simp [Ens.toL, Ens.get?]
  | .cons s x xs, 0 => by simp [Ens.toL, Ens.get?]
  | .cons s x xs, i + 1 => by rw [Ens.toL, List.getElem?_cons_succ, Ens.get?]; exact Ens.toL_get xs i
def OKQ (l : Ens) (i : Nat) : Prop := ∀ j, j < i → ∀ s x, l.get? j = some (s, x) → (s.size ≤ 200 ∧ mayO x 28 = true ∧ x.kind ≠ 0 ∧ roomO x 6 40 = true) ∧ ∀ k, k < j → ∀ t y, l.get? k = some (t, y) → t ≠ s
theorem okq_all {l : Ens} {w : World} {S : Nat → Prop} {A : Option Addr} {c : Nat} (h : OKQ l l.len) (hl : EnsV w S l A c) : (wdE 40 l ∧ htE l ≤ 7 ∧ okE l ∧ (∀ p ∈ l.toL, 0 ≤ p.2.kind ∧ p.2.kind ≤ 9)) ∧ KeyU l.toL ∧ ∀ p ∈ l.toL, p.2.kind ≠ 0 := by
  have lt_of : ∀ i p, l.get? i = some p → i < l.len := fun i p hp => by
    rcases Nat.lt_or_ge i l.len with h1 | h1
    · exact h1
    · rw [Ens.get_none l i h1] at hp; cases hp
  refine ⟨ens_all 40 7 l (fun i s x hx => ?_), ?_, fun p hp => ?_⟩
  · have hi := lt_of i _ hx
    obtain ⟨⟨_, h2, _, h3⟩, _⟩ := h i hi s x hx
    obtain ⟨g, o, _, _, hr⟩ := hl.2 (by omega)
    obtain ⟨c0, c1, c2, c3, c4, _, _, _, _, _, _, hxr⟩ := hr.get l g o i s x hx
    have := roomW 40 (by omega) x c0 c1 c2 c3 c4 28 6 hxr h2 h3
    exact ⟨this.1, by have := this.2.1; omega, this.2.2, may_kind h2⟩
  · unfold KeyU
    rw [List.pairwise_iff_getElem]
    intro i j hi hj hij
    have ei := Ens.toL_get l i
    have ej := Ens.toL_get l j
    rw [List.getElem?_eq_getElem hi] at ei
    rw [List.getElem?_eq_getElem hj] at ej
    exact (h j (by rw [← Ens.toL_len]; exact hj) _ _ ej.symm).2 i hij _ _ ei.symm
  · obtain ⟨i, hi⟩ := List.getElem?_of_mem hp
    rw [Ens.toL_get] at hi
    exact (h i (lt_of i _ hi) p.1 p.2 hi).1.2.2.1
/-- What an operation of the region leaves. -/
def gotZ (x : Ob) (v : Value) (z : Zone) (w : World) : Prop := ∃ d0 d1 d2 d3 d4, v = .agg #[d0, d1, d2, d3, d4] ∧ ObR w (fun g => z.1 ≤ g ∧ g < z.2) x d0 d1 d2 d3 d4
def ownZ (N : Nat) (v : Value) (z : Zone) (w : World) (d : Ens) : Prop := OwnT N w v d ∧ ∀ b, v.ownBlock = some b → z.1 ≤ b ∧ b < z.2
def boxZ (v : Value) (z : Zone) (w : World) : Prop := v = .pointer (some ⟨z.1, 0, none⟩) ∧ z.1 < z.2 ∧ ∃ z0 z1 z2 z3 z4, w.heap[z.1]? = some (.cells #[z0, z1, z2, z3, z4] 27 (0, 0))
def heldZ (u v : Value) (z : Zone) (w : World) : Prop := ∃ d0 d1 d2 d3 d4, u = .agg #[d0, d1, d2, d3, d4] ∧ v = .pointer (some ⟨z.1, 0, none⟩) ∧ z.1 < z.2 ∧ w.heap[z.1]? = some (.cells #[d0, d1, d2, d3, d4] 27 (0, 0))
section
variable {N : Nat} {z : Zone} {w : World}
theorem gotZ.stab {x : Ob} {v : Value} (h : gotZ x v z w) (hz : z.2 ≤ w.heap.size) : Stab N z (gotZ x v z) w := fun w' _ hb => by
  obtain ⟨d0, d1, d2, d3, d4, e, ho⟩ := h
  exact ⟨d0, d1, d2, d3, d4, e, ObR.keep (fun g hg => hb g (by omega) (.inr hg)) (fun _ h => h) _ ho⟩
theorem ownZ.stab {v : Value} {d : Ens} (h : ownZ N v z w d) (hN : N ≤ w.heap.size) : Stab N z (fun w' => ownZ N v z w' d) w := fun w' _ hb =>
  ⟨h.1.keep (fun b hbN => hb b (by omega) (.inl hbN)) (fun b hv => hb b (h.1.lt b hv).1 (.inr (h.2 b hv))), h.2⟩
theorem boxZ.stab {v : Value} (h : boxZ v z w) : Stab N z (boxZ v z) w := fun w' _ hb => by
  obtain ⟨e, hl, z0, z1, z2, z3, z4, hh⟩ := h
  exact ⟨e, hl, z0, z1, z2, z3, z4, (hb z.1 (row_lt _ _ _ hh) (.inr ⟨Nat.le_refl _, hl⟩)).trans hh⟩
theorem heldZ.stab {u v : Value} (h : heldZ u v z w) : Stab N z (heldZ u v z) w := fun w' _ hb => by
  obtain ⟨d0, d1, d2, d3, d4, e, e2, hl, hh⟩ := h
  exact ⟨d0, d1, d2, d3, d4, e, e2, hl, (hb z.1 (row_lt _ _ _ hh) (.inr ⟨Nat.le_refl _, hl⟩)).trans hh⟩
end
section
variable {N : Nat} {W0 : World} {Pr : Nat → (Nat → Value) → Zone → World → Prop} {dep : Nat → List Nat} {eat : Nat → Option Nat} {Zo : Nat → Zone} {L : Nat → Bool} {V : Nat → Value} {w w' : World}
/-- A row of one's own grows. -/
theorem ZF.own (loc : ∀ i V V' z w, (∀ j ∈ dep i, V j = V' j) → Pr i V z w → Pr i V' z w) (h : ZF N W0 Pr dep eat Zo L V w) (hN : N = W0.heap.size) {i j : Nat} (hi : L i = false) (hdep : ∀ j ∈ dep i, j = i ∨ L j = true) (hj : eat j = some i) (hlj : L j = true)
    {v u : Value} {d d' : Ens} (ho : ownZ N u (Zo j) w d) (hv : OwnT N w' v d') (hk : KeepX u w v w') (hp : ∀ z w2, ownZ N v z w2 d' → Pr i (updF V i v) z w2) : ∃ z, ZF N W0 Pr dep eat (updF Zo i z) (updF L i true) (updF V i v) w' := by
  have hNw : N ≤ w.heap.size := by rw [hN]; exact h.low.size
  have hr := h.rng j hlj (fun c hc => by rw [hj] at hc; injection hc with hc; subst hc; exact hi)
  have hkeep : ∀ b, b < w.heap.size → (∀ j, eat j = some i → L j = true → ¬ ((Zo j).1 ≤ b ∧ b < (Zo j).2)) → w'.heap[b]? = w.heap[b]? := fun b hb hno => hk.block b hb (fun e => hno j hj hlj (ho.2 b e))
  by_cases hnew : ∃ b, v.ownBlock = some b ∧ w.heap.size ≤ b
  · obtain ⟨b, e, hb⟩ := hnew
    refine ⟨(w.heap.size, w'.heap.size), h.move loc hN hi hdep hk.os hk.tape hk.output hk.size hkeep ⟨hNw, hk.size, Nat.le_refl _⟩ (.inl (Nat.le_refl _)) ?_⟩
    have hz : ownZ N v (w.heap.size, w'.heap.size) w' d' := ⟨hv, fun b' e' => by
      rw [e] at e'; injection e' with e'; subst e'
      exact ⟨hb, (hv.lt b e).1⟩⟩
    exact (hz.stab (Nat.le_trans hNw hk.size)).mono (fun w2 h2 => hp _ w2 h2)
  · refine ⟨Zo j, h.move loc hN hi hdep hk.os hk.tape hk.output hk.size hkeep ⟨hr.1, hr.2.1, Nat.le_trans hr.2.2 hk.size⟩ (.inr (.inr ⟨j, hj, hlj, Nat.le_refl _, Nat.le_refl _⟩)) ?_⟩
    have hz : ownZ N v (Zo j) w' d' := ⟨hv, fun b e => by
      rcases hk.own b e with h1 | h1
      · exact ho.2 b h1
      · exact absurd ⟨b, e, h1⟩ hnew⟩
    exact (hz.stab (Nat.le_trans hNw hk.size)).mono (fun w2 h2 => hp _ w2 h2)
/-- An object is stored in its box. -/
theorem ZF.fill (loc : ∀ i V V' z w, (∀ j ∈ dep i, V j = V' j) → Pr i V z w → Pr i V' z w) (h : ZF N W0 Pr dep eat Zo L V w) (hN : N = W0.heap.size) {i j : Nat} (hi : L i = false) (hdep : ∀ j ∈ dep i, j = i ∨ L j = true) (hj : eat j = some i) (hlj : L j = true)
    {b : Nat} {d0 d1 d2 d3 d4 : Value} {W' : World} (hW' : (((((w.setCell ⟨b, 0, none⟩ d0).setCell ⟨b, 1, none⟩ d1).setCell ⟨b, 2, none⟩ d2).setCell ⟨b, 3, none⟩ d3).setCell ⟨b, 4, none⟩ d4) = W') (ho : boxZ (.pointer (some ⟨b, 0, none⟩)) (Zo j) w) (hp : ∀ z w2, heldZ (.agg #[d0, d1, d2, d3, d4]) (.pointer (some ⟨b, 0, none⟩)) z w2 → Pr i (updF V i undef) z w2) :
    ZF N W0 Pr dep eat (updF Zo i (Zo j)) (updF L i true) (updF V i undef) W' := by
  have hr := h.rng j hlj (fun c hc => by rw [hj] at hc; injection hc with hc; subst hc; exact hi)
  obtain ⟨e, hl, z0, z1, z2, z3, z4, hh⟩ := ho
  injection e with e
  injection e with e
  injection e with e
  subst e
  have hrow := set5_row (x0 := d0) (x1 := d1) (x2 := d2) (x3 := d3) (x4 := d4) hh
  have hoth := fun b (hb : b ≠ (Zo j).1) => heap_set5 (W := w) (x0 := d0) (x1 := d1) (x2 := d2) (x3 := d3) (x4 := d4) hb
  have hsz := size_set5 (W := w) (g := (Zo j).1) (x0 := d0) (x1 := d1) (x2 := d2) (x3 := d3) (x4 := d4)
  rw [hW'] at hrow hsz
  simp only [hW'] at hoth
  have hb5 := below_set5 (g := (Zo j).1) (x0 := d0) (x1 := d1) (x2 := d2) (x3 := d3) (x4 := d4) (Below.refl 0 w) (Nat.zero_le _)
  rw [hW'] at hb5
  have hos := hb5.os
  have htp := hb5.tape
  have hou := hb5.output
  clear hW' hb5
  have hk : ∀ b, b < w.heap.size → (∀ j, eat j = some i → L j = true → ¬ ((Zo j).1 ≤ b ∧ b < (Zo j).2)) → W'.heap[b]? = w.heap[b]? := fun b hb hno => by
    refine hoth b (fun e => ?_)
    subst e
    exact hno j hj hlj ⟨Nat.le_refl _, hl⟩
  have hst : Stab N (Zo j) (Pr i (updF V i undef) (Zo j)) W' := (heldZ.stab ⟨d0, d1, d2, d3, d4, rfl, rfl, hl, hrow⟩).mono (fun w2 h2 => hp _ w2 h2)
  have hsl : w.heap.size ≤ W'.heap.size := by rw [hsz]; exact Nat.le_refl _
  have hz3 : (Zo j).2 ≤ W'.heap.size := by rw [hsz]; exact hr.2.2
  clear hrow hoth hsz hh hp
  exact ZF.move (w := w) (w' := W') (v := undef) (z := Zo j) loc h hN hi hdep hos htp hou hsl hk ⟨hr.1, hr.2.1, hz3⟩ (.inr (.inr ⟨j, hj, hlj, Nat.le_refl _, Nat.le_refl _⟩)) hst
end
/-- An append in a region that draws its order. -/
theorem wpOp_appendV {P : Program} {l : List Oper} {Q : Exit → Act → World → Prop} {i : Nat} {o : Oper} {K : Act → World → Prop} {a : Act} {w w' : World} {s x : Operand} {t : TypeId} {v v1 v2 : Value} (ho : l[i]? = some o) (hg : o.guard = none) (hop : o.op = .call { callee := .builtin .append, args := #[s, x], argTypes := #[t, t] })
    (h1 : a.eval s = v1) (h2 : a.eval x = v2) (hrun : (Builtin.append_ #[t, t] o.type #[v1, v2]).run P w = .ok v w') (h : K (a.put o.dst v) w') : wpOp P l.toArray Q i K a w := by
  refine wpOp_valueV ho hg ?_ h
  simp [execOp, hop, resolve, invoke, builtin, h1, h2, hrun, Result.andThen]
section
variable {N : Nat} {W0 : World} {Pr : Nat → (Nat → Value) → Zone → World → Prop} {dep : Nat → List Nat} {eat : Nat → Option Nat} {Zo : Nat → Zone} {L : Nat → Bool} {V : Nat → Value} {w : World}
theorem ZF.get (h : ZF N W0 Pr dep eat Zo L V w) {j : Nat} (hl : L j = true) (he : eat j = none) : Pr j V (Zo j) w := (h.at_ j hl (fun c hc => by rw [he] at hc; cases hc)).now
theorem ZF.getE (h : ZF N W0 Pr dep eat Zo L V w) {i j : Nat} (hl : L j = true) (he : eat j = some i) (hi : L i = false) : Pr j V (Zo j) w := (h.at_ j hl (fun c hc => by rw [he] at hc; injection hc with hc; subst hc; exact hi)).now
end
theorem Agree.evT {l : List Oper} {L : Nat → Bool} {V : Nat → Value} {a0 a : Act} (h : Agree l L V a0 a) {j k : Nat} {o : Oper} (ho : l[j]? = some o) (hk : o.dst = some k) (hl : L j = true) : a.eval (.tmp k) = V j := by
  have e := h.ev ho hk hl
  rw [← Array.getD_eq_getD_getElem?] at e
  exact e
theorem slice_run {P : Program} {a : Act} {o : Oper} {t : TypeId} {k1 k2 : Nat} {v1 v2 v : Value} {w : World} (ho : o.op = .slice t (.tmp k1) (some (.tmp k2)) none none) (h1 : a.tmps[k1]?.getD undef = v1) (h2 : a.tmps[k2]?.getD undef = v2)
    (hrun : (Instr.slice t v1 (some v2) none none).run P w = .ok v w) (ht : P.underlying t = some (.slice (P.elem t))) : (execOp a.eval o).run P w = .ok (.value v) w := by
  rw [← Array.getD_eq_getD_getElem?] at h1 h2
  have e1 : a.eval (.tmp k1) = v1 := h1
  have e2 : a.eval (.tmp k2) = v2 := h2
  have hs := run_sliceAt_slice (P := P) (w := w) t v1 (some v2) none none ht
  simp [execOp, ho, e1, e2, hs, hrun, Result.andThen]
theorem slice_runH {P : Program} {a : Act} {o : Oper} {t : TypeId} {k1 k2 : Nat} {v1 v2 v : Value} {w : World} (ho : o.op = .slice t (.tmp k1) none (some (.tmp k2)) none) (h1 : a.tmps[k1]?.getD undef = v1) (h2 : a.tmps[k2]?.getD undef = v2)
    (hrun : (Instr.slice t v1 none (some v2) none).run P w = .ok v w) (ht : P.underlying t = some (.slice (P.elem t))) : (execOp a.eval o).run P w = .ok (.value v) w := by
  rw [← Array.getD_eq_getD_getElem?] at h1 h2
  have e1 : a.eval (.tmp k1) = v1 := h1
  have e2 : a.eval (.tmp k2) = v2 := h2
  have hs := run_sliceAt_slice (P := P) (w := w) t v1 none (some v2) none ht
  simp [execOp, ho, e1, e2, hs, hrun, Result.andThen]
end
end Go.Proofs.Ytdkmomdioiipjaa
