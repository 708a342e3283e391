/- Chapter 8, the document's own: a row of the table stands at a place; rows of texts. -/
import Derived.Test.YtpnnejedfccckaaLy8
import Derived.Laws.IdiomStrings
namespace Go.Proofs.Ytpnnejedfccckaa
open Go.RowKit
set_option linter.unusedVariables false
set_option maxRecDepth 100000

theorem byte_inj (x y : Int) (hx : 0 ≤ x ∧ x < 256) (hy : 0 ≤ y ∧ y < 256) (h : UInt8.ofNat x.toNat = UInt8.ofNat y.toNat) : x = y := by
  have := congrArg UInt8.toNat h
  simp only [UInt8.toNat_ofNat'] at this
  omega
theorem nums_inj : ∀ (xs ys : List Int), (∀ z ∈ xs, 0 ≤ z ∧ z < 256) → (∀ z ∈ ys, 0 ≤ z ∧ z < 256) → xs.map (fun n => UInt8.ofNat n.toNat) = ys.map (fun n => UInt8.ofNat n.toNat) → xs = ys
  | [], [], _, _, _ => rfl
  | [], y :: ys, _, _, h => by simp at h
  | x :: xs, [], _, _, h => by simp at h
  | x :: xs, y :: ys, hx, hy, h => by
    rw [List.map_cons, List.map_cons, List.cons.injEq] at h
    rw [byte_inj x y (hx x (by simp)) (hy y (by simp)) h.1, nums_inj xs ys (fun z hz => hx z (by simp [hz])) (fun z hz => hy z (by simp [hz])) h.2]
theorem loop_eq (s : ByteArray) : ∀ (k i : Nat) (r : List UInt8), k = s.size - i → ByteArray.toList.loop s i r = r.reverse ++ s.data.toList.drop i
  | 0, i, r, h => by
    rw [ByteArray.toList.loop.eq_1, if_neg (by omega), List.drop_of_length_le (by have : s.data.toList.length = s.size := rfl; omega), List.append_nil]
  | k + 1, i, r, h => by
    have hi : i < s.data.toList.length := by show i < s.size; omega
    rw [ByteArray.toList.loop.eq_1, if_pos (by omega), loop_eq s k (i + 1) _ (by omega), List.reverse_cons, List.append_assoc, List.drop_eq_getElem_cons hi]
    congr 2
    show s.data[i]! :: _ = _
    have hi2 : i < s.data.size := hi
    simp only [Array.getElem_toList, List.cons.injEq]
    exact ⟨getElem!_pos s.data i hi2, rfl⟩
theorem toList_eq (s : ByteArray) : s.toList = s.data.toList := by
  rw [ByteArray.toList, loop_eq s (s.size - 0) 0 [] rfl]; rfl
theorem stB_stL (zs : List Int) (a : Nat) (t : List Int) (hz : ∀ z ∈ zs, 0 ≤ z ∧ z < 256) (ht : ∀ z ∈ t, 0 ≤ z ∧ z < 256) (h : a + t.length ≤ zs.length) : stB zs a (strOfNums t) = stL zs a t := by
  rw [stB_yes zs a (strOfNums t) (by rw [strOfNums_size]; exact h), strOfNums_size, stL]
  by_cases e : (zs.drop a).take t.length = t
  · rw [e]; simp
  · rw [beq_eq_false_iff_ne.2 e]
    refine beq_eq_false_iff_ne.2 (fun h2 => e ?_)
    rw [toList_eq, toList_eq, strOfNums_data, strOfNums_data] at h2
    exact nums_inj _ _ (fun z hz' => hz z (List.mem_of_mem_drop (List.mem_of_mem_take hz'))) ht h2
theorem stL_far (zs : List Int) (a : Nat) (t : List Int) (h : zs.length < a + t.length) (h0 : t ≠ []) : stL zs a t = false := by
  rw [stL]
  refine beq_eq_false_iff_ne.2 (fun e => ?_)
  have := congrArg List.length e
  rw [List.length_take, List.length_drop] at this
  have := List.length_pos_iff.2 h0
  omega
theorem standsC (A : Option Addr) (n c B a : Nat) (zs t : List Int) (w : World) (hb : Byt w B A n c zs) (hn : n ≤ 1000000) (ht : ∀ z ∈ t, 0 ≤ z ∧ z < 256) (h0 : t ≠ []) (hl : t.length ≤ 1000000) :
    Calls Try.prog 26 #[.slice A n c, .int .i64 a, .string (strOfNums t)] w fun e w' => e = .returned (.bool (stL zs a t)) ∧ w = w' := by
  by_cases h : a + t.length ≤ n
  · rw [← stB_stL zs a t hb.rng ht (by rw [hb.len]; exact h)]
    exact refStands_at A n c B zs a (strOfNums t) w hb hn (by rw [strOfNums_size]; exact h)
  · rw [stL_far zs a t (by rw [hb.len]; omega) h0]
    exact refStands_no2 A n c zs a (strOfNums t) w hb.len hn (by rw [strOfNums_size]; omega) (by rw [strOfNums_size]; omega)
theorem info9 : (Try.prog.info? 9).map (fun i => (i.zero, i.size, i.bytes)) = some (some (.string ⟨#[]⟩), 1, 16) := by kernel_rfl
/-- A text more in a row of texts. -/
theorem OwnV.text {w : World} {base : Nat} {v : Value} {xs : List Value} (h : OwnV w base 9 v xs) (ty : TypeId) (g : Nat) (s : ByteArray) (hu : w.cell? ⟨g, 0, none⟩ = some (.string s)) (hl : xs.length ≤ 1000000000) (hbase : base ≤ w.heap.size) :
    ∃ v' w', (Builtin.append_ #[65, 65] ty #[v, .slice (some ⟨g, 0, none⟩) 1 1]).run Try.prog w = .ok v' w' ∧ OwnV w' base 9 v' (xs ++ [.string s]) ∧ KeepX v w v' w' ∧ ∃ A c, v' = .slice A (xs.length + 1) c := by
  obtain ⟨i0, hi, hz0, hz1, hz2⟩ := info_parts info9
  exact h.append1 65 ty i0 _ 16 Try.underlying65 hi hz0 hz1 hz2 rfl (by omega) g _ hu rfl hl hbase
end Go.Proofs.Ytpnnejedfccckaa
