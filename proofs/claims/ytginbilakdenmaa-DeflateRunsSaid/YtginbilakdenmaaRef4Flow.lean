/- The document's own flow (chapter 4): the reader, what came, put. -/
import Derived.Test.YtginbilakdenmaaRef4Symbol
import Derived.Test.YtginbilakdenmaaCopy
namespace Go.Proofs.Ytginbilakdenmaa
open Go.RowKit
set_option linter.unusedVariables false
set_option maxRecDepth 100000

/-- What stands in the blocks ts is as it was. -/
structure Keeps (ts : Nat → Prop) (w w' : World) : Prop where
  os : w'.os = w.os
  tape : w'.tape = w.tape
  output : w'.output = w.output
  size : w.heap.size ≤ w'.heap.size
  block : ∀ k, ts k → w'.heap[k]? = w.heap[k]?
section
variable {ts : Nat → Prop} {a b c w w' : World} {g k : Nat}
theorem Keeps.refl (ts : Nat → Prop) (w : World) : Keeps ts w w := ⟨rfl, rfl, rfl, Nat.le_refl _, fun _ _ => rfl⟩
theorem Keeps.trans (h : Keeps ts a b) (k : Keeps ts b c) : Keeps ts a c :=
  ⟨k.os.trans h.os, k.tape.trans h.tape, k.output.trans h.output, Nat.le_trans h.size k.size, fun i hi => (k.block i hi).trans (h.block i hi)⟩
theorem Keeps.drewN (h : Keeps ts a b) (n : Nat) : Keeps ts a (b.drewN n) := ⟨h.os, h.tape, h.output, h.size, h.block⟩
theorem Only.keeps (h : Only g a b) (hg : ¬ ts g) (hb : ∀ i, ts i → i < a.heap.size) : Keeps ts a b :=
  ⟨h.os, h.tape, h.output, h.size, fun i hi => h.block i (hb i hi) (fun e => hg (e ▸ hi))⟩
theorem Keeps.sub {us : Nat → Prop} (h : Keeps ts a b) (hs : ∀ i, us i → ts i) : Keeps us a b := ⟨h.os, h.tape, h.output, h.size, fun i hi => h.block i (hs i hi)⟩
end

/-- The flow in block k: its reader in block g, the bytes that came, in a row of its own; no block of ts. -/
structure FS (w : World) (k g : Nat) (ts : Nat → Prop) (A : Option Addr) (n c p : Nat) (e : Int) (v : Value) (out : List Int) (most : Nat) : Prop where
  bs : BS w g A n c p e
  fl : w.heap[k]? = some (.cells #[.pointer (some ⟨g, 0, none⟩), v, .int .i64 most] 77 (0, 0))
  kg : k ≠ g
  row : Mine w 0 v out.length out
  own : ∀ b, v.ownBlock = some b → ¬ ts b ∧ b ≠ k ∧ b ≠ g
  tk : ¬ ts k
  tg : ¬ ts g
  tb : ∀ i, ts i → i < w.heap.size
section
variable {w w' : World} {k g n c p most : Nat} {e : Int} {A : Option Addr} {v : Value} {out : List Int} {ts : Nat → Prop}
theorem FS.lt (h : FS w k g ts A n c p e v out most) : k < w.heap.size := by
  rcases Nat.lt_or_ge k w.heap.size with hlt | hge
  · exact hlt
  · have := h.fl; rw [Array.getElem?_eq_none hge] at this; cases this
theorem FS.c0 (h : FS w k g ts A n c p e v out most) : w.cell? ⟨k, 0, none⟩ = some (.pointer (some ⟨g, 0, none⟩)) := by rw [cell_of_row w k 0 _ 77 (0, 0) h.fl]; rfl
theorem FS.c1 (h : FS w k g ts A n c p e v out most) : w.cell? ⟨k, 1, none⟩ = some v := by rw [cell_of_row w k 1 _ 77 (0, 0) h.fl]; rfl
theorem FS.c2 (h : FS w k g ts A n c p e v out most) : w.cell? ⟨k, 2, none⟩ = some (.int .i64 most) := by rw [cell_of_row w k 2 _ 77 (0, 0) h.fl]; rfl
theorem FS.fr (h : FS w k g ts A n c p e v out most) (i : Nat) : w.frozen? ⟨k, i, none⟩ = false := by
  have := h.fl
  simp [World.frozen?, this]
theorem FS.drewN (h : FS w k g ts A n c p e v out most) (i : Nat) : FS (w.drewN i) k g ts A n c p e v out most :=
  ⟨h.bs, h.fl, h.kg, h.row.drewN i, h.own, h.tk, h.tg, h.tb⟩
/-- A row of one's own stays where its block stays. -/
theorem Mine.same {w w' : World} {base p : Nat} {v : Value} {zs : List Int} (h : Mine w base v p zs) (hb : ∀ b, v.ownBlock = some b → b < w.heap.size → w'.heap[b]? = w.heap[b]?) : Mine w' base v p zs := by
  refine ⟨⟨h.own.1, ?_⟩, h.rng⟩
  rcases h.own.2 with h0 | ⟨b, cap, cur, hv, hbb, hh, hr⟩
  · exact .inl h0
  · refine .inr ⟨b, cap, cur, hv, hbb, ?_, hr⟩
    have hlt : b < w.heap.size := by
      rcases Nat.lt_or_ge b w.heap.size with hlt | hge
      · exact hlt
      · rw [Array.getElem?_eq_none hge] at hh; cases hh
    rw [hb b (by rw [hv]; rfl) hlt]
    exact hh
/-- The reader alone went on. -/
theorem FS.read (h : FS w k g ts A n c p e v out most) (ho : Only g w w') {p' : Nat} {e' : Int} (hb : BS w' g A n c p' e') : FS w' k g ts A n c p' e' v out most :=
  ⟨hb, (ho.block k h.lt h.kg).trans h.fl, h.kg, h.row.same (fun b hv hlt => ho.block b hlt (h.own b hv).2.2), h.own, h.tk, h.tg, fun i hi => Nat.lt_of_lt_of_le (h.tb i hi) ho.size⟩
/-- New memory alone. -/
theorem FS.more (h : FS w k g ts A n c p e v out most) (hb : Below w.heap.size w w') : FS w' k g ts A n c p e v out most :=
  h.read (Only.of_below hb g) (h.bs.below hb h.bs.lt)
/-- More blocks that are not the flow's. -/
theorem FS.with (h : FS w k g ts A n c p e v out most) (us : Nat → Prop) (hu : ∀ i, us i → i < w.heap.size ∧ i ≠ k ∧ i ≠ g ∧ v.ownBlock ≠ some i) : FS w k g us A n c p e v out most :=
  ⟨h.bs, h.fl, h.kg, h.row, fun b hb => ⟨fun hu' => (hu b hu').2.2.2 hb, (h.own b hb).2⟩, fun hu' => (hu k hu').2.1 rfl, fun hu' => (hu g hu').2.2.1 rfl, fun i hi => (hu i hi).1⟩
end

/-- One byte more behind a row of one's own. -/
theorem Mine.append1 {w : World} {v : Value} {p : Nat} {zs : List Int} (h : Mine w 0 v p zs) (z : Int) (hz : 0 ≤ z ∧ z < 256) (ty : TypeId) (hp : p + 1 ≤ 140737488355328) :
    ∃ v' w', (Builtin.append_ #[29, 29] ty #[v, .slice (some ⟨w.heap.size, 0, none⟩) 1 1]).run Try.prog (w.alloc (.cells #[.int .u8 z] 5)) = .ok v' w' ∧ Mine w' 0 v' (p + 1) (zs ++ [z]) ∧
      (∀ k, k < w.heap.size → v.ownBlock ≠ some k → w'.heap[k]? = w.heap[k]?) ∧ w'.os = w.os ∧ w'.tape = w.tape ∧ w'.output = w.output ∧ w.heap.size ≤ w'.heap.size ∧ (∀ b, v'.ownBlock = some b → v.ownBlock = some b ∨ w.heap.size ≤ b) := by
  obtain ⟨i0, hi, hz0, hz1, hz2⟩ := info_parts info5
  have hl := h.kept ((Below.refl _ _).alloc (Nat.le_refl _) (.cells #[.int .u8 z] 5))
  have hby := byt_lit0 w z hz
  obtain ⟨v', w', hr, hown, hgr, _, hat⟩ := run_append_own_at (P := Try.prog) (w.alloc (.cells #[.int .u8 z] 5)) 0 29 ty 5 i0 _ 1 1 Try.underlying29 hi hz0 hz1 hz2 rfl (by omega) v p _ hl.own ⟨w.heap.size, 0, none⟩ 1 1 [.int .u8 z]
    (by simp) (fun j u hj => by
      have hj0 : j = 0 := by
        have := (List.getElem?_eq_some_iff.1 hj).1
        simp at this; exact this
      subst hj0
      obtain ⟨b, o, e, _, hc⟩ := hby.cell (by omega)
      have hc0 := hc 0 (by omega)
      injection e with e
      injection e with e1 e2 e3
      subst e1 e2
      rw [show (⟨w.heap.size, 0, none⟩ : Addr).add 0 = ⟨w.heap.size, 0 + 0, none⟩ from rfl, hc0, ← hj]
      simp) (fun u hu => by simp at hu; subst hu; rfl) (by simp only [maxLen]; omega) (by omega) (Nat.zero_le _)
  have hsz : (w.alloc (.cells #[.int .u8 z] 5)).heap.size = w.heap.size + 1 := by simp
  refine ⟨v', w', hr, ⟨by simpa using hown, fun y hy => by
    rcases List.mem_append.1 hy with hy | hy
    · exact h.rng y hy
    · simp at hy; subst hy; exact hz⟩, fun k hk hne => ?_, hgr.os, hgr.tape, hgr.output, Nat.le_trans (by simp) hgr.size, fun b hb => ?_⟩
  · rw [hgr.block k (by omega) (fun e => hne e.symm)]
    exact ((Below.refl w.heap.size w).alloc (Nat.le_refl _) (.cells #[.int .u8 z] 5)).block k hk
  · rcases hat with h1 | h1
    · exact .inl (by rw [← h1, hb])
    · rw [hb, hsz] at h1; injection h1 with h1; exact .inr (by omega)

theorem FS.grown {w w6 : World} {k g n c p most : Nat} {e : Int} {A : Option Addr} {v v6 : Value} {out out6 : List Int} {ts : Nat → Prop} (h : FS w k g ts A n c p e v out most) (hrow : Mine w6 0 v6 out6.length out6)
    (hblk : ∀ i, i < w.heap.size → v.ownBlock ≠ some i → w6.heap[i]? = w.heap[i]?) (hos : w6.os = w.os) (htp : w6.tape = w.tape) (hou : w6.output = w.output) (hsz : w.heap.size ≤ w6.heap.size) (hown : ∀ b, v6.ownBlock = some b → v.ownBlock = some b ∨ w.heap.size ≤ b) :
    FS (w6.setCell ⟨k, 1, none⟩ v6) k g ts A n c p e v6 out6 most ∧ Keeps ts w (w6.setCell ⟨k, 1, none⟩ v6) := by
  have hk := h.lt
  have hg := h.bs.lt
  have hset : ∀ i, i ≠ k → (w6.setCell ⟨k, 1, none⟩ v6).heap[i]? = w6.heap[i]? := fun i hi => Below.heap_setCell w6 ⟨k, 1, none⟩ v6 i hi
  have hb6 : ∀ b, v6.ownBlock = some b → ¬ ts b ∧ b ≠ k ∧ b ≠ g := fun b hb => by
    rcases hown b hb with h1 | h1
    · exact h.own b h1
    · exact ⟨fun ht => by have := h.tb b ht; omega, by omega, by omega⟩
  have hno : ∀ i, i ≠ k → i < w.heap.size → v.ownBlock ≠ some i → (w6.setCell ⟨k, 1, none⟩ v6).heap[i]? = w.heap[i]? := fun i h1 h2 h3 => (hset i h1).trans (hblk i h2 h3)
  refine ⟨⟨?_, ?_, h.kg, ?_, hb6, h.tk, h.tg, fun i hi => ?_⟩, ?_⟩
  · exact (hno g (fun e => h.kg e.symm) hg (fun e => (h.own g e).2.2 rfl)).trans h.bs
  · have h6 : w6.heap[k]? = _ := (hblk k hk (fun e => (h.own k e).2.1 rfl)).trans h.fl
    simp [World.setCell, Array.getElem?_modify, h6]
  · exact hrow.same fun b hb _ => hset b (hb6 b hb).2.1
  · have := h.tb i hi
    simp [World.setCell]; omega
  · exact ⟨hos, htp, hou, by simpa [World.setCell] using hsz, fun i hi => hno i (fun e => h.tk (e ▸ hi)) (h.tb i hi) (fun e => (h.own i e).1 hi)⟩

def putO (most : Nat) (out : List Int) (e z : Int) : List Int := if e = 0 ∧ out.length < most then out ++ [z] else out
def putE (most : Nat) (out : List Int) (e : Int) : Int := if e = 0 ∧ most ≤ out.length then 7 else e

set_option maxRecDepth 100000 in
set_option maxHeartbeats 1000000 in
theorem putC (k g n c p most : Nat) (e z : Int) (A : Option Addr) (v : Value) (out : List Int) (ts : Nat → Prop) (w : World) (h : FS w k g ts A n c p e v out most) (hz : 0 ≤ z ∧ z < 256) (hm : most ≤ 100000000) :
    Calls Try.prog 55 #[.pointer (some ⟨k, 0, none⟩), .int .u8 z] w fun r w' => r = .returned (.tuple #[]) ∧ ∃ v', FS w' k g ts A n c p (putE most out e) v' (putO most out e z) most ∧ Keeps ts w w' := by
  have H := Lib.hid h
  have h0 := h.c0
  have h1 := h.c1
  have h2 := h.c2
  have hb2 := h.bs.c2
  have hf := h.fr 1
  obtain ⟨A2, c2, hv, _⟩ := h.row.byt
  subst hv
  have HFL := Lib.hid (fun W (hW : BS W g A n c p 0) => fail_first g n c p 7 A W hW)
  clear h
  by_cases he : e = 0
  · subst he
    by_cases hlt : out.length < most
    · have hd : ¬ ((out.length : Int) ≥ most) := by omega
      have HO : Hid (putO most out 0 z = out ++ [z]) := Lib.hid (by unfold putO; rw [if_pos ⟨rfl, hlt⟩])
      have HE : Hid (putE most out 0 = 0) := Lib.hid (by unfold putE; rw [if_neg (by omega)])
      have HAP := Lib.hid (fun nq => (H.out.row.drewN nq).append1 z hz 29 (by omega))
      go_enter Try.func55, Try.ntmps55
      go_wp2_with fail
      go_quiet (fail)
      go_wp2_with (first
        | (at_builtin; obtain ⟨v6, w6, hrun, hmi6, hbl6, hos6, htp6, hou6, hsz6, hwn6⟩ := HAP.out nq; obtain ⟨A6, c6, rfl, _⟩ := hmi6.byt; refine Lib.wpList_append_run_sl _ rfl (.tmp 41) (.tmp 43) 29 rfl _ _ rfl rfl hrun ?_; clear hrun; have hf6 : w6.frozen? ⟨k, 1, none⟩ = false := (World.frozen?_of_block (hbl6 k H.out.lt (fun e => (H.out.own k e).2.1 rfl))).trans hf; have hk6 : w6.cell? ⟨k, 1, none⟩ = _ := (World.cell?_of_block (hbl6 k H.out.lt (fun e => (H.out.own k e).2.1 rfl))).trans h1; have HB6 := Lib.hid hbl6; have HM6 := Lib.hid hmi6; have HX6 := Lib.hid (And.intro hos6 (And.intro htp6 (And.intro hou6 (And.intro hsz6 hwn6)))); clear hbl6 hmi6 hos6 htp6 hou6 hsz6 hwn6))
      (try simp only [Exit.inBlock, Exit.then])
      refine ⟨rfl, _, results_none rfl _ _ _, ?_⟩
      rw [HO.out, HE.out]
      obtain ⟨h1, h2, h3, h4, h5⟩ := HX6.out
      have hend := (H.out.drewN nq).grown (out6 := out ++ [z]) (by rw [List.length_append]; exact HM6.out) HB6.out h1 h2 h3 h4 h5
      exact ⟨rfl, _, hend.1, ((Keeps.refl _ _).drewN nq).trans hend.2⟩
    · have hd : (out.length : Int) ≥ most := by omega
      have HO : Hid (putO most out 0 z = out) := Lib.hid (by unfold putO; rw [if_neg (by omega)])
      have HE : Hid (putE most out 0 = 7) := Lib.hid (by unfold putE; rw [if_pos (by omega)])
      go_enter Try.func55, Try.ntmps55
      go_wp2_with fail
      go_quiet (fail)
      go_wp2_with (go_at_call 48; refine (HFL.out _ (H.out.bs.drewN nq)).mono ?_; rintro r w2 ⟨rfl, hb2, ho2⟩; have H2 := Lib.hid ((H.out.drewN nq).read ho2 hb2); have HO2 := Lib.hid ho2; have k0 := H2.out.c0; have k2 := hb2.c2; clear hb2 ho2)
      (try simp only [Exit.inBlock, Exit.then])
      refine ⟨rfl, _, results_none rfl _ _ _, ?_⟩
      rw [HO.out, HE.out]
      exact ⟨rfl, _, H2.out, ((Keeps.refl _ _).drewN nq).trans (HO2.out.keeps H.out.tg H.out.tb)⟩
  · have hne : (e == 0) = false := beq_eq_false_iff_ne.2 he
    have HO : Hid (putO most out e z = out) := Lib.hid (by unfold putO; rw [if_neg (by omega)])
    have HE : Hid (putE most out e = e) := Lib.hid (by unfold putE; rw [if_neg (by omega)])
    clear he
    go_enter Try.func55, Try.ntmps55
    go_wp2_with fail
    go_quiet (fail)
    go_wp2_with fail
    (try simp only [Exit.inBlock, Exit.then])
    refine ⟨rfl, _, results_none rfl _ _ _, ?_⟩
    rw [HO.out, HE.out]
    exact ⟨rfl, _, H.out.drewN _, (Keeps.refl _ _).drewN _⟩
end Go.Proofs.Ytginbilakdenmaa
