/- Chapter 8, the project's row of bits within a greater struct: its block, its pieces; fill. -/
import Derived.Test.YtpnnejedfccckaaBp8
import Derived.Deep.MidRow
import Derived.Deep.DeepCutAuto
import Derived.BigRegion
import Derived.RegionTactic
import Derived.OrdersHeld
namespace Go.Proofs.Ytpnnejedfccckaa
open Go.RowKit
set_option linter.unusedVariables false
set_option maxRecDepth 100000

/-- The pieces behind p, the newest first: whole pieces of 256 bytes. -/
def Chain (w : World) : List Nat → Value → List Int → Prop
  | [], p, zs => p = .pointer none ∧ zs = []
  | b :: bs, p, zs => p = .pointer (some ⟨b, 0, none⟩) ∧ ∃ (p' : Value) (ys xs : List Int), zs = ys ++ xs ∧ xs.length = 256 ∧ w.heap[b]? = some (.cells ((p' :: u8s xs).toArray) 83 (0, 0)) ∧ Chain w bs p' ys
theorem Chain.keep {w w' : World} : ∀ {bs : List Nat} {p : Value} {zs : List Int}, Chain w bs p zs → (∀ b, b ∈ bs → w'.heap[b]? = w.heap[b]?) → Chain w' bs p zs
  | [], _, _, h, _ => h
  | b :: bs, _, _, ⟨h1, p', ys, xs, h2, h3, h4, h5⟩, hb => ⟨h1, p', ys, xs, h2, h3, (hb b (List.mem_cons_self ..)).trans h4, h5.keep fun i hi => hb i (List.mem_cons_of_mem _ hi)⟩
theorem Chain.len {w : World} : ∀ {bs : List Nat} {p : Value} {zs : List Int}, Chain w bs p zs → zs.length = 256 * bs.length
  | [], _, _, ⟨_, h⟩ => by rw [h]; rfl
  | b :: bs, _, _, ⟨_, p', ys, xs, h2, h3, _, h5⟩ => by
    rw [h2, List.length_append, h3, h5.len, List.length_cons]; omega
/-- The project's row in block g (of type T): its pieces bs, the part behind them, F whole bytes in all, R the rest, m bits of it. -/
structure PR (w : World) (g : Nat) (T : TypeId) (XT : List Value) (bs : List Nat) (p : Value) (part F : List Int) (R : Int) (m : Nat) : Prop where
  blk : w.heap[g]? = some (.cells ((p :: (u8s part ++ .int .i64 F.length :: .int .i64 R :: .int .i64 m :: XT)).toArray) T (0, 0))
  pl : part.length = 256
  ch : Chain w bs p (F.take (256 * bs.length))
  bl : F.length / 256 = bs.length
  tail : part.take (F.length % 256) = F.drop (256 * bs.length)
  ne : ∀ b, b ∈ bs → b ≠ g ∧ b < w.heap.size
  rng : ∀ z ∈ F, 0 ≤ z ∧ z < 256
section
variable {w w' : World} {g : Nat} {T : TypeId} {XT : List Value} {bs : List Nat} {p : Value} {part F : List Int} {R : Int} {m : Nat}
theorem PR.lt (h : PR w g T XT bs p part F R m) : g < w.heap.size := by
  rcases Nat.lt_or_ge g w.heap.size with hlt | hge
  · exact hlt
  · have := h.blk; rw [Array.getElem?_eq_none hge] at this; cases this
theorem PR.fr (h : PR w g T XT bs p part F R m) (i : Nat) : w.frozen? ⟨g, i, none⟩ = false := by
  have := h.blk
  simp [World.frozen?, this]
theorem PR.c0 (h : PR w g T XT bs p part F R m) : w.cell? ⟨g, 0, none⟩ = some p := by rw [cell_of_row w g 0 _ T (0, 0) h.blk]; rfl
theorem PR.cpart (h : PR w g T XT bs p part F R m) (i : Nat) (hi : i < 256) : w.cell? ⟨g, 1 + i, none⟩ = some (.int .u8 (part.getD i 0)) := by
  rw [cell_of_row w g (1 + i) _ T (0, 0) h.blk, Nat.add_comm 1 i]
  have e : (u8s part ++ .int .i64 F.length :: .int .i64 R :: .int .i64 m :: XT)[i]? = some (.int .u8 (part.getD i 0)) := by
    rw [List.getElem?_append_left (by simp [u8s, h.pl]; exact hi)]
    simp [u8s, h.pl, hi, List.getD]
  simpa using e
theorem row_at (p : Value) (part : List Int) (Y : List Value) (hp : part.length = 256) (i : Nat) : (p :: (u8s part ++ Y)).toArray[257 + i]? = Y[i]? := by
  have hl : (u8s part).length = 256 := by simp [u8s, hp]
  rw [show 257 + i = (256 + i) + 1 by omega]
  simp [List.getElem?_append_right, hl]
theorem PR.c257 (h : PR w g T XT bs p part F R m) : w.cell? ⟨g, 257, none⟩ = some (.int .i64 F.length) := by
  rw [cell_of_row w g 257 _ T (0, 0) h.blk]
  exact row_at p part _ h.pl 0
theorem PR.c258 (h : PR w g T XT bs p part F R m) : w.cell? ⟨g, 258, none⟩ = some (.int .i64 R) := by
  rw [cell_of_row w g 258 _ T (0, 0) h.blk]
  exact row_at p part _ h.pl 1
theorem PR.c259 (h : PR w g T XT bs p part F R m) : w.cell? ⟨g, 259, none⟩ = some (.int .i64 m) := by
  rw [cell_of_row w g 259 _ T (0, 0) h.blk]
  exact row_at p part _ h.pl 2
theorem PR.cX (h : PR w g T XT bs p part F R m) (i : Nat) : w.cell? ⟨g, 260 + i, none⟩ = XT[i]? := by
  rw [cell_of_row w g (260 + i) _ T (0, 0) h.blk, show 260 + i = 257 + (i + 3) by omega]
  exact row_at p part _ h.pl (i + 3)
theorem PR.drewN (h : PR w g T XT bs p part F R m) (k : Nat) : PR (w.drewN k) g T XT bs p part F R m := ⟨h.blk, h.pl, h.ch.keep fun _ _ => rfl, h.bl, h.tail, h.ne, h.rng⟩
/-- Other blocks changed. -/
theorem PR.keep (h : PR w g T XT bs p part F R m) (hs : w.heap.size ≤ w'.heap.size) (hb : ∀ i, i = g ∨ i ∈ bs → w'.heap[i]? = w.heap[i]?) : PR w' g T XT bs p part F R m :=
  ⟨(hb g (.inl rfl)).trans h.blk, h.pl, h.ch.keep fun b hb' => hb b (.inr hb'), h.bl, h.tail, fun b hb' => ⟨(h.ne b hb').1, Nat.lt_of_lt_of_le (h.ne b hb').2 hs⟩, h.rng⟩
theorem PR.more (h : PR w g T XT bs p part F R m) (hb : Below w.heap.size w w') : PR w' g T XT bs p part F R m := h.keep hb.size fun i hi => by
  rcases hi with rfl | hi
  · exact hb.block _ h.lt
  · exact hb.block _ (h.ne i hi).2
theorem set_rest (p : Value) (part : List Int) (a b c v : Value) (XT : List Value) (hp : part.length = 256) :
    (p :: (u8s part ++ a :: b :: c :: XT)).set 257 v = p :: (u8s part ++ v :: b :: c :: XT) ∧ (p :: (u8s part ++ a :: b :: c :: XT)).set 258 v = p :: (u8s part ++ a :: v :: c :: XT) ∧ (p :: (u8s part ++ a :: b :: c :: XT)).set 259 v = p :: (u8s part ++ a :: b :: v :: XT) := by
  have hl : (u8s part).length = 256 := by simp [u8s, hp]
  refine ⟨?_, ?_, ?_⟩
  · rw [List.set_cons_succ, List.set_append_right _ _ (by omega), hl]; rfl
  · rw [List.set_cons_succ, List.set_append_right _ _ (by omega), hl]; rfl
  · rw [List.set_cons_succ, List.set_append_right _ _ (by omega), hl]; rfl
theorem PR.chainSet (h : PR w g T XT bs p part F R m) (i : Nat) (v : Value) {q : Value} {zs : List Int} (hc : Chain w bs q zs) : Chain (w.setCell ⟨g, i, none⟩ v) bs q zs :=
  hc.keep fun b hb => Below.heap_setCell w ⟨g, i, none⟩ v b (h.ne b hb).1
/-- The rest, the bits of it. -/
theorem PR.setR (h : PR w g T XT bs p part F R m) (R' : Int) : PR (w.setCell ⟨g, 258, none⟩ (.int .i64 R')) g T XT bs p part F R' m :=
  ⟨by rw [heap_set w g 258 _ _ T h.blk, (set_rest p part _ _ _ _ XT h.pl).2.1], h.pl, h.chainSet _ _ h.ch, h.bl, h.tail, fun b hb => ⟨(h.ne b hb).1, by simpa [World.setCell] using (h.ne b hb).2⟩, h.rng⟩
theorem PR.setM (h : PR w g T XT bs p part F R m) (m' : Nat) (z : Int) (hz : z = m') : PR (w.setCell ⟨g, 259, none⟩ (.int .i64 z)) g T XT bs p part F R m' := by
  subst hz
  exact ⟨by rw [heap_set w g 259 _ _ T h.blk, (set_rest p part _ _ _ _ XT h.pl).2.2], h.pl, h.chainSet _ _ h.ch, h.bl, h.tail, fun b hb => ⟨(h.ne b hb).1, by simpa [World.setCell] using (h.ne b hb).2⟩, h.rng⟩
/-- What stands behind the row. -/
theorem PR.setX (h : PR w g T XT bs p part F R m) (i : Nat) (v : Value) : PR (w.setCell ⟨g, 260 + i, none⟩ v) g T (XT.set i v) bs p part F R m := by
  refine ⟨?_, h.pl, h.chainSet _ _ h.ch, h.bl, h.tail, fun b hb => ⟨(h.ne b hb).1, by simpa [World.setCell] using (h.ne b hb).2⟩, h.rng⟩
  rw [heap_set w g (260 + i) _ _ T h.blk]
  have hl : (u8s part).length = 256 := by simp [u8s, h.pl]
  rw [show 260 + i = (256 + (i + 3)) + 1 by omega, List.set_cons_succ, List.set_append_right _ _ (by omega), hl, Nat.add_sub_cancel_left]
  rfl
/-- A byte more in the part: not its last. -/
theorem PR.fill1 (h : PR w g T XT bs p part F R m) (c z : Int) (q : Nat) (hc : 0 ≤ c ∧ c < 256) (hz : z = F.length + 1) (hq : q = F.length % 256) :
    ((w.setCell ⟨g, 1 + q, none⟩ (.int .u8 c)).setCell ⟨g, 257, none⟩ (.int .i64 z)).heap[g]? = some (.cells ((p :: (u8s (part.set q c) ++ .int .i64 (F ++ [c]).length :: .int .i64 R :: .int .i64 m :: XT)).toArray) T (0, 0)) := by
  subst hz hq
  have hlt : F.length % 256 < 256 := Nat.mod_lt _ (by omega)
  have h1 := heap_set w g (1 + F.length % 256) (.int .u8 c) _ T h.blk
  have e1 : (p :: (u8s part ++ .int .i64 F.length :: .int .i64 R :: .int .i64 m :: XT)).set (1 + F.length % 256) (.int .u8 c) = p :: (u8s (part.set (F.length % 256) c) ++ .int .i64 F.length :: .int .i64 R :: .int .i64 m :: XT) := by
    rw [Nat.add_comm, List.set_cons_succ, List.set_append_left _ _ (by simp [u8s, h.pl]; omega), u8s, u8s, List.map_set]
  rw [e1] at h1
  rw [heap_set _ g 257 _ _ T h1, (set_rest p (part.set (F.length % 256) c) _ _ _ _ XT (by rw [List.length_set]; exact h.pl)).1]
  simp
theorem PR.tail1 (h : PR w g T XT bs p part F R m) (c : Int) : (part.set (F.length % 256) c).take (F.length % 256 + 1) = (F ++ [c]).drop (256 * bs.length) := by
  have hlt : F.length % 256 < 256 := Nat.mod_lt _ (by omega)
  have hb := h.bl
  have hl : F.length % 256 < (part.set (F.length % 256) c).length := by rw [List.length_set, h.pl]; exact hlt
  rw [take_snocZ _ _ hl, List.take_set, h.tail, List.drop_append_of_le_length (by omega)]
  have e : (part.set (F.length % 256) c).getD (F.length % 256) 0 = c := by simp [List.getD, h.pl, hlt]
  rw [e]
  congr 1
  rw [List.set_eq_of_length_le]
  rw [List.length_drop]
  omega
end
end Go.Proofs.Ytpnnejedfccckaa
