/- Contracts of functions that the law calls, and what they lean on (a part). -/
import Derived.Test.YtpomkhcobpihmaaGreatPas2
import Derived.Test.YtpomkhcobpihmaaGreatPas7
import Derived.Test.YtpomkhcobpihmaaGreatPas12
namespace Go.Proofs.YtpomkhcobpihmaaGreat
section
open Go.RowKit
set_option linter.unusedVariables false
set_option maxRecDepth 100000
/-- The lexer in block m (cells X behind it), over the slice '.slice A n c', at the place p. -/
structure LD (w : World) (m : Nat) (T : TypeId) (X : List Value) (A : Option Addr) (n c p : Nat) : Prop where
  blk : w.heap[m]? = some (.cells (.slice A n c :: .int .i64 (p : Int) :: X).toArray T (0, 0))
section
variable {w w' : World} {m g n c p B : Nat} {T : TypeId} {X : List Value} {A : Option Addr}
theorem LD.lt (h : LD w m T X A n c p) : m < w.heap.size := row_lt w m _ h.blk
theorem LD.c0 (h : LD w m T X A n c p) : w.cell? ⟨m, 0, none⟩ = some (.slice A n c) := by rw [cell_of_row w m 0 _ T (0, 0) h.blk]; rfl
theorem LD.c1 (h : LD w m T X A n c p) : w.cell? ⟨m, 1, none⟩ = some (.int .i64 p) := by rw [cell_of_row w m 1 _ T (0, 0) h.blk]; rfl
theorem LD.fr (h : LD w m T X A n c p) (i : Nat) : w.frozen? ⟨m, i, none⟩ = false := by
  have := h.blk
  simp [World.frozen?, this]
theorem LD.drewN (h : LD w m T X A n c p) (k : Nat) : LD (w.drewN k) m T X A n c p := ⟨h.blk⟩
theorem LD.keep (h : LD w m T X A n c p) (e : w'.heap[m]? = w.heap[m]?) : LD w' m T X A n c p := ⟨e.trans h.blk⟩
theorem LD.below (h : LD w m T X A n c p) (hb : Below B w w') (hg : m < B) : LD w' m T X A n c p := h.keep (hb.block m hg)
theorem LD.only (h : LD w m T X A n c p) (ho : Only g w w') (hne : m ≠ g) : LD w' m T X A n c p := h.keep (ho.block m h.lt hne)
theorem LD.setI (h : LD w m T X A n c p) (q : Nat) (z : Int) (hz : z = q) : LD (w.setCell ⟨m, 1, none⟩ (.int .i64 z)) m T X A n c q := by
  subst hz
  exact ⟨by have := heap_set w m 1 (.int .i64 (q : Int)) (.slice A n c :: .int .i64 (p : Int) :: X) T h.blk; exact this⟩
end
/-- The lexer, and a row of the call's own. -/
structure DS (w wr : World) (m : Nat) (T : TypeId) (X : List Value) (A : Option Addr) (n c q : Nat) (v : Value) (out : List Int) : Prop where
  ld : LD wr m T X A n c q
  ol : Only m w wr
  row : Mine wr w.heap.size v out.length out
  lm : m < w.heap.size
section
variable {w wr w' : World} {m n c q q' : Nat} {T : TypeId} {X : List Value} {A : Option Addr} {v : Value} {out : List Int}
theorem DS.start (h : LD w m T X A n c q) : DS w w m T X A n c q (.slice none 0 0) [] := ⟨h, Only.refl _ _, Mine.nil _ _, h.lt⟩
theorem DS.drewN (x : DS w wr m T X A n c q v out) (j : Nat) : DS w (wr.drewN j) m T X A n c q v out := ⟨x.ld.drewN j, x.ol.drewN j, x.row.drewN j, x.lm⟩
theorem DS.moved (x : DS w wr m T X A n c q v out) (hl : LD w' m T X A n c q') (ho : Only m wr w') : DS w w' m T X A n c q' v out := ⟨hl, x.ol.trans ho, x.row.only ho x.lm, x.lm⟩
theorem DS.setI (x : DS w wr m T X A n c q v out) (q' : Nat) (z : Int) (hz : z = q') : DS w (wr.setCell ⟨m, 1, none⟩ (.int .i64 z)) m T X A n c q' v out :=
  x.moved (x.ld.setI q' z hz) ((Only.refl m wr).set_ 1 _)
theorem DS.byt (x : DS w wr m T X A n c q v out) : ∃ A' c', v = .slice A' out.length c' ∧ Byt wr wr.heap.size A' out.length c' out ∧ From w.heap.size A' out.length := by
  obtain ⟨A', c', e, hy⟩ := x.row.byt
  subst e
  exact ⟨A', c', rfl, hy, x.row.from_⟩
theorem DS.room (x : DS w wr m T X A n c q v out) (z : Int) (hz : 0 ≤ z ∧ z < 256) (hm : out.length ≤ 100000000) :
    ∃ v' w', (Builtin.append_ #[23, 23] 23 #[v, .slice (some ⟨wr.heap.size, 0, none⟩) 1 1]).run Tryz.prog (wr.alloc (.cells #[.int .u8 z] 5)) = .ok v' w' ∧
      DS w w' m T X A n c q v' (out ++ [z]) ∧ ∃ A c, v' = .slice A (out.length + 1) c := by
  have hsz := x.ol.size
  have hal := (Below.refl wr.heap.size wr).alloc (Nat.le_refl _) (.cells #[.int .u8 z] 5)
  obtain ⟨v6, w6, hrun, hmi6, hk6⟩ := (x.row.kept hal).appendX (byt_lit0 wr z hz) 23 (by omega) (Nat.le_trans hsz hal.size)
  obtain ⟨A6, c6, hv6, _⟩ := hmi6.byt
  have hlm := x.lm
  have hbl : Below w.heap.size wr w6 := (hal.mono hsz).trans (hk6.below (Nat.le_trans hsz hal.size) (x.row.kept hal).owned)
  refine ⟨v6, w6, hrun, ⟨x.ld.below hbl x.lm, ?_, by rw [List.length_append]; exact hmi6, x.lm⟩, A6, c6, hv6⟩
  exact ⟨hbl.os.trans x.ol.os, hbl.tape.trans x.ol.tape, hbl.output.trans x.ol.output, Nat.le_trans hsz hbl.size, fun b hb hne => (hbl.block b hb).trans (x.ol.block b hb hne)⟩
end
end
end Go.Proofs.YtpomkhcobpihmaaGreat
