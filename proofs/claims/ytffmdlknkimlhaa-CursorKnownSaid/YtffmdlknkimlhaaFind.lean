/- What package cursor's Find and Last answer, and what the document's own Find and Last answer: the same. -/
import Derived.Test.YtffmdlknkimlhaaLastB
import Derived.Test.YtffmdlknkimlhaaCurC
import Derived.Lib.ConvBytes
import Derived.Lib.IndexMore
namespace Go.Proofs.Ytffmdlknkimlhaa
open Go.RowKit Go.Lib
set_option linter.unusedVariables false

theorem bytesOf_drop_take (zs : List Int) (p k : Nat) : Lib.bytesOf ((zs.drop p).take k) = ((Lib.bytesOf zs).drop p).take k := by
  simp [Lib.bytesOf, List.map_take, List.map_drop]
theorem stB_occ (zs : List Int) (p : Nat) (s : ByteArray) (h : p + s.size ≤ zs.length) : stB zs p s = occAt (Lib.bytesOf zs) s.data.toList p := by
  rw [stB_yes zs p s h, occAt_iff_take _ _ _ (by rw [bytesOf_length]; simpa using h), ByteArray.toList_eq, ByteArray.toList_eq]
  have e : (strOfNums ((zs.drop p).take s.size)).data.toList = ((Lib.bytesOf zs).drop p).take s.size := by
    rw [← bytesOf_drop_take]
    exact strOfNums_data _
  rw [e]
  simp

theorem cell_lt0 {w : World} {p : Addr} {v : Value} (h : w.cell? p = some v) : p.block < w.heap.size := by
  rcases Nat.lt_or_ge p.block w.heap.size with hlt | hge
  · exact hlt
  · have e : w.heap[p.block]? = none := Array.getElem?_eq_none hge
    simp [World.cell?, e] at h

/-- The first place from f on. -/
def firstZ (l sub : List UInt8) (f : Nat) : Int := if l.length < f then -1 else if Lib.index (l.drop f) sub = -1 then -1 else Lib.index (l.drop f) sub + f
theorem occ_drop (l sub : List UInt8) (f j : Nat) : occAt (l.drop f) sub j = occAt l sub (f + j) := by
  unfold occAt; rw [List.drop_drop]
theorem firstZ_hit (l sub : List UInt8) (f k : Nat) (hf : f ≤ k) (hk : k ≤ l.length) (ho : occAt l sub k = true) (hn : ∀ j, f ≤ j → j < k → occAt l sub j = false) : firstZ l sub f = k := by
  have e := index_first (s := l.drop f) (sub := sub) (i := k - f) (by simp; omega) (by rw [occ_drop, show f + (k - f) = k by omega]; exact ho) (fun j hj => by rw [occ_drop]; exact hn _ (by omega) (by omega))
  unfold firstZ
  rw [if_neg (by omega), e, if_neg (by omega)]
  omega
theorem firstZ_none (l sub : List UInt8) (f k : Nat) (hk : l.length < k + sub.length) (hn : ∀ j, f ≤ j → j < k → occAt l sub j = false) : firstZ l sub f = -1 := by
  rcases Nat.lt_or_ge l.length f with hlf | hlf
  · unfold firstZ; rw [if_pos hlf]
  have e : Lib.index (l.drop f) sub = -1 := index_none (fun j hj => by
    rw [occ_drop]
    rcases Nat.lt_or_ge (f + j) k with hlt | hge
    · exact hn _ (by omega) hlt
    · rcases ho : occAt l sub (f + j) with _ | _
      · rfl
      · rcases occAt_room ho with h | h
        · omega
        · subst h
          simp at hk hj
          omega)
  unfold firstZ
  rw [if_neg (by omega), e, if_pos rfl]

/-- The document's own Find, from a place. -/
theorem refFind_nat (A : Option Addr) (n c B : Nat) (zs : List Int) (s : ByteArray) (f : Nat) (w : World) (hb : Byt w B A n c zs) (hn : n ≤ 1000000) (hs : s.size ≤ 1000000) (hf : f ≤ 9223372036854775807) (from_ : Int) (hfr : from_ = f ∨ (from_ < 0 ∧ f = 0)) :
    Calls Try.prog 19 #[.slice A n c, .string s, .int .i64 from_] w fun e w' => e = .returned (.int .i64 (firstZ (Lib.bytesOf zs) s.data.toList f)) ∧ w = w' := by
  have HB := Lib.hid hb
  have HLE : Hid ((Lib.bytesOf zs).length = n) := Lib.hid (by rw [bytesOf_length, hb.len])
  have HSL : Hid (s.data.toList.length = s.size) := Lib.hid (by simp)
  have hmax : max from_ 0 = (f : Int) := by rcases hfr with h | ⟨h, h0⟩ <;> omega
  clear hb hfr
  go_enter Try.func19, Try.ntmps19
  go_wp2
  go_loop [7] (fun vi => ∃ k : Nat, f ≤ k ∧ (k = f ∨ k ≤ n + 1) ∧ vi = .int .i64 k ∧ Hid (∀ j, f ≤ j → j < k → occAt (Lib.bytesOf zs) s.data.toList j = false)) (fun vi => n + 1 - (RowKit.intOf vi).toNat)
  case atStart => exact ⟨f, Nat.le_refl _, .inl rfl, rfl, fun j h1 h2 => absurd h2 (by omega)⟩
  case round =>
    obtain ⟨k, hk1, hk2, rfl, hno⟩ := hrel
    by_cases hle : k + s.size ≤ n
    · have hst := stB_occ zs k s (by rw [HB.out.len]; exact hle)
      have hrs := refStands_at A n c B zs k s w HB.out hn hle
      rcases ho : occAt (Lib.bytesOf zs) s.data.toList k with _ | _
      · rw [ho] at hst
        rw [hst] at hrs
        have HO := Lib.hid ho
        have HRS := Lib.hid hrs
        clear ho hst hrs
        have ht : (k : Int) ≤ (n : Int) - s.size := by omega
        go_wp2_with (go_at_call 30; refine HRS.out.mono ?_; rintro e w' ⟨rfl, rfl⟩)
        go_round
        case rel => exact ⟨k + 1, by omega, .inr (by omega), by go_num, Lib.hid (fun j h1 h2 => by
          rcases Nat.lt_or_ge j k with h3 | h3
          · exact hno.out j h1 h3
          · rw [show j = k by omega]; exact HO.out)⟩
        case measure => simp [RowKit.intOf]; omega
      · rw [ho] at hst
        rw [hst] at hrs
        have HRES := Lib.hid (firstZ_hit (Lib.bytesOf zs) s.data.toList f k hk1 (by rw [HLE.out]; omega) ho hno.out)
        have HRS := Lib.hid hrs
        clear ho hst hrs
        have ht : (k : Int) ≤ (n : Int) - s.size := by omega
        go_wp2_with (go_at_call 30; refine HRS.out.mono ?_; rintro e w' ⟨rfl, rfl⟩)
        go_ret
        exact ⟨ret_int HRES.out.symm, rfl⟩
    · have HRES := Lib.hid (firstZ_none (Lib.bytesOf zs) s.data.toList f k (by rw [HLE.out, HSL.out]; omega) hno.out)
      have ht : ¬ (k : Int) ≤ (n : Int) - s.size := by omega
      go_wp2
      go_ret
      exact ⟨ret_int HRES.out.symm, rfl⟩

/-- The document's own Last. -/
theorem refLast_any (A : Option Addr) (n c B : Nat) (zs : List Int) (s : ByteArray) (w : World) (hb : Byt w B A n c zs) (hn : n ≤ 1000000) (hs : s.size ≤ 1000000) :
    Calls Try.prog 20 #[.slice A n c, .string s] w fun e w' => e = .returned (.int .i64 (Lib.lastIndex (Lib.bytesOf zs) s.data.toList)) ∧ w = w' := by
  have HB := Lib.hid hb
  have HLE : Hid ((Lib.bytesOf zs).length = n) := Lib.hid (by rw [bytesOf_length, hb.len])
  have HSL : Hid (s.data.toList.length = s.size) := Lib.hid (by simp)
  clear hb
  by_cases hfit : s.size ≤ n
  · obtain ⟨last, hlast⟩ : ∃ last : Nat, n = last + s.size := ⟨n - s.size, by omega⟩
    have hrec : Lib.lastIndex (Lib.bytesOf zs) s.data.toList = Lib.lastOcc (Lib.bytesOf zs) s.data.toList (last + 1) := by
      unfold Lib.lastIndex
      rw [if_pos (by rw [HLE.out, HSL.out]; exact hfit), HLE.out, HSL.out]
      congr 1
      omega
    have HREC := Lib.hid hrec
    have e0 : (n : Int) - s.size = last := by omega
    clear hrec hlast
    have HE := Lib.hid e0
    go_enter Try.func20, Try.ntmps20
    go_wp2
    clear e0
    go_loop [5] (fun vi => ∃ k : Nat, k ≤ last + 1 ∧ vi = .int .i64 ((k : Int) - 1) ∧ Hid (Lib.lastIndex (Lib.bytesOf zs) s.data.toList = Lib.lastOcc (Lib.bytesOf zs) s.data.toList k)) (fun vi => ((RowKit.intOf vi) + 1).toNat)
    case atStart => exact ⟨last + 1, Nat.le_refl _, by go_num, HREC⟩
    case round =>
      obtain ⟨k, hk, rfl, hl⟩ := hrel
      cases k with
      | zero =>
        go_wp2
        go_ret
        exact ⟨ret_int hl.out.symm, rfl⟩
      | succ j =>
        have hle : j + s.size ≤ n := by have := HE.out; omega
        have e1 : ((j + 1 : Nat) : Int) - 1 = (j : Int) := by omega
        rw [e1]
        clear e1
        have hst := stB_occ zs j s (by rw [HB.out.len]; exact hle)
        have hrs := refStands_at A n c B zs j s w HB.out hn hle
        rcases ho : occAt (Lib.bytesOf zs) s.data.toList j with _ | _
        · rw [ho] at hst
          rw [hst] at hrs
          have HRES : Hid (Lib.lastIndex (Lib.bytesOf zs) s.data.toList = Lib.lastOcc (Lib.bytesOf zs) s.data.toList j) := Lib.hid (by rw [hl.out]; exact Lib.lastOcc_miss _ _ j ho)
          have HRS := Lib.hid hrs
          clear ho hst hrs
          go_wp2_with (go_at_call 30; refine HRS.out.mono ?_; rintro e w' ⟨rfl, rfl⟩)
          go_round
          case rel => exact ⟨j, by omega, rfl, HRES⟩
          case measure => simp [RowKit.intOf]
        · rw [ho] at hst
          rw [hst] at hrs
          have HRES : Hid (Lib.lastIndex (Lib.bytesOf zs) s.data.toList = j) := Lib.hid (by rw [hl.out]; exact Lib.lastOcc_hit _ _ j ho)
          have HRS := Lib.hid hrs
          clear ho hst hrs
          go_wp2_with (go_at_call 30; refine HRS.out.mono ?_; rintro e w' ⟨rfl, rfl⟩)
          go_ret
          exact ⟨ret_int HRES.out.symm, rfl⟩
  · have HRES := Lib.hid (lastIndex_longer (Lib.bytesOf zs) s.data.toList (by rw [HLE.out, HSL.out]; omega))
    have hlt : ¬ (0 : Int) ≤ (n : Int) - s.size := by omega
    go_enter Try.func20, Try.ntmps20
    go_wp2
    go_loop [5] (fun vi => vi = .int .i64 ((n : Int) - s.size)) (fun vi => 0)
    case atStart => rfl
    case round =>
      subst hrel
      go_wp2
      go_ret
      exact ⟨ret_int HRES.out.symm, rfl⟩

/-- A text's bytes as numbers. -/
def strZ (s : ByteArray) : List Int := s.data.toList.map fun b => (b.toNat : Int)
theorem strZ_bytes (s : ByteArray) : Lib.bytesOf (strZ s) = s.data.toList := by
  unfold Lib.bytesOf strZ
  rw [List.map_map]
  conv => rhs; rw [← List.map_id s.data.toList]
  apply List.map_congr_left
  intro b _
  simp
theorem strZ_byt (w : World) (s : ByteArray) : Byt (Lib.bytesWorld w 5 s) (w.heap.size + 1) (some ⟨w.heap.size, 0, none⟩) s.size (grownCap w s.size 0 5) (strZ s) := by
  refine ⟨by simp [strZ], grownCap_ge w s.size 0 5, fun z hz => ?_, fun _ => ⟨w.heap.size, 0, rfl, by omega, fun i hi => ?_⟩⟩
  · obtain ⟨b, _, rfl⟩ := List.mem_map.1 hz
    have := UInt8.toNat_lt b
    omega
  · rw [Nat.zero_add, Lib.bytesWorld_cell w 5 s i hi]
    simp [strZ, List.getD, hi]
theorem strZ_below (w : World) (s : ByteArray) : Below w.heap.size w (Lib.bytesWorld w 5 s) :=
  ⟨rfl, rfl, rfl, by rw [Lib.bytesWorld_size]; omega, fun k hk => Lib.bytesWorld_at_old w 5 s k hk⟩

theorem index_any (A : Option Addr) (a2 : Addr) (n c B k c2 B2 : Nat) (zs ys : List Int) (m : Int) (w : World) (hb : Byt w B A n c zs) (hA : A = none → c = 0) (hb2 : Byt w B2 (some a2) k c2 ys) (hn : n ≤ 1000000) (hk : k ≤ 1000000) (hm : w.cell? ⟨0, 0, none⟩ = some (.int .i64 m)) :
    Calls Try.prog 27 #[.slice A n c, .slice (some a2) k c2] w fun e w' => e = .returned (.int .i64 (Lib.index (Lib.bytesOf zs) (Lib.bytesOf ys))) ∧ ∃ q, w' = w.drewN q := by
  have cells : ∀ (a : Addr) (n c B : Nat) (zs : List Int), Byt w B (some a) n c zs → ∀ i, i < n → w.cell? (a.add i) = some (.int .u8 (zs.getD i 0)) := by
    intro a n c B zs hb i hi
    obtain ⟨b, o, e, _, hc⟩ := hb.cell (by omega)
    injection e with e
    subst e
    have e2 : (⟨b, o, none⟩ : Addr).add i = ⟨b, o + i, none⟩ := by unfold Addr.add; split <;> simp_all
    rw [e2]; exact hc i hi
  rcases A with _ | a
  · have hc0 := hA rfl
    subst hc0
    obtain rfl : n = 0 := by have := hb.cap; omega
    obtain rfl : zs = [] := List.eq_nil_of_length_eq_zero hb.len
    refine (Try.bytes_Index_nil (some a2) k c2 w (by omega) (fun h1 => ?_)).mono fun e w' ⟨he, hw⟩ => ⟨?_, 0, hw⟩
    · obtain ⟨b, o, e, _, hc⟩ := hb2.cell (by omega)
      exact ⟨b, o, _, e, hc 0 (by omega)⟩
    · rw [he]
      refine ret_int ?_
      by_cases h0 : k = 0
      · rw [if_pos h0]
        obtain rfl : ys = [] := List.eq_nil_of_length_eq_zero (by rw [hb2.len, h0])
        rfl
      · rw [if_neg h0]
        have hy : Lib.bytesOf ys ≠ [] := fun e => h0 (by have := congrArg List.length e; rw [bytesOf_length, hb2.len] at this; simpa using this)
        show _ = if (Lib.bytesOf ys).isEmpty = true then (0 : Int) else -1
        rw [if_neg (by simpa using hy)]
  · exact Try.bytes_Index_at a a2 n c k c2 zs ys m w hb.len hb2.len hb.rng hb2.rng (cells a n c B zs hb) (cells a2 k c2 B2 ys hb2) hb.cap (by omega) (by omega) hm

theorem run_cutF {P : Program} (W : World) (t e : TypeId) (ht : P.underlying t = some (.slice e)) (hz : ∀ w, (Go.sizeOf e).run P w = .ok 1 w) (A : Option Addr) (len cap l : Nat) (hl : l ≤ len) :
    (Instr.slice t (.slice A len cap) (some (.int .i64 (l : Int))) none none).run P W = .ok (.slice (cutA A cap l) (len - l) (cap - l)) W := by
  have ht' : P.underlying t = some (.slice (P.elem t)) := by simp [Program.elem, ht]
  have he : P.elem t = e := by simp [Program.elem, ht]
  rw [run_slice_l W t _ _ _ ht' .i64 _ (by omega) (by omega), he, hz]
  simp [Result.andThen, sliced, cutA]

/-- Find, from a place. -/
theorem find_nat (A : Option Addr) (n c B : Nat) (zs : List Int) (s : ByteArray) (f : Nat) (m : Int) (w : World) (hb : Byt w B A n c zs) (hB : B ≤ w.heap.size) (hA : A = none → c = 0) (hn : n ≤ 1000000) (hs : s.size ≤ 1000000) (hf : f ≤ 9223372036854775807) (from_ : Int) (hfr : from_ = f ∨ (from_ < 0 ∧ f = 0)) (hm : w.cell? ⟨0, 0, none⟩ = some (.int .i64 m)) :
    Calls Try.prog 13 #[.slice A n c, .string s, .int .i64 from_] w fun e w' => e = .returned (.int .i64 (firstZ (Lib.bytesOf zs) s.data.toList f)) ∧ Below w.heap.size w w' := by
  have hmax : max from_ 0 = (f : Int) := by rcases hfr with h | ⟨h, h0⟩ <;> omega
  have hle : (Lib.bytesOf zs).length = n := by rw [bytesOf_length, hb.len]
  by_cases hfn : n < f
  · have HR : Hid (firstZ (Lib.bytesOf zs) s.data.toList f = -1) := Lib.hid (by unfold firstZ; rw [if_pos (by omega)])
    clear hb hfr hle
    go_enter Try.func13, Try.ntmps13
    go_wp2
    go_ret
    exact ⟨ret_int HR.out.symm, Below.refl _ _⟩
  have hbel := strZ_below w s
  have hb1 := hb.below hbel hB
  have hcut := hb1.cut (l := f) (m := n - f) (by omega)
  have hsb := strZ_byt w s
  have hm1 : (Lib.bytesWorld w 5 s).cell? ⟨0, 0, none⟩ = some (.int .i64 m) := by rw [Lib.bytesWorld_old w 5 s _ (cell_lt0 hm)]; exact hm
  have hix := index_any (cutA A c f) _ (n - f) (c - f) B s.size _ _ _ _ m (Lib.bytesWorld w 5 s) hcut (fun h => by
    have : A = none := by
      unfold cutA at h
      split at h
      · exact h
      · rcases A with _ | a
        · rfl
        · cases h
    have := hA this; omega) hsb (by omega) hs hm1
  have edr : Lib.bytesOf ((zs.drop f).take (n - f)) = (Lib.bytesOf zs).drop f := by
    rw [bytesOf_drop_take, List.take_of_length_le (by simp [bytesOf_length, hb.len])]
  rw [strZ_bytes, edr] at hix
  have hcv : ∀ W, (convert 9 25 (.string s)).run Try.prog W = .ok (.slice (some ⟨W.heap.size, 0, none⟩) s.size (grownCap W s.size 0 5)) (Lib.bytesWorld W 5 s) := fun W => Lib.run_convert_string_bytes W 9 25 5 s Try.underlying9 Try.underlying25 Try.underlying5
  have hsl := fun W => run_cutF (P := Try.prog) W 25 5 Try.underlying25 (fun w => by kernel_rfl) A n c f (by omega)
  obtain ⟨r, hr⟩ : ∃ r, Lib.index ((Lib.bytesOf zs).drop f) s.data.toList = r := ⟨_, rfl⟩
  have hge := index_ge ((Lib.bytesOf zs).drop f) s.data.toList
  have hrm := index_room ((Lib.bytesOf zs).drop f) s.data.toList
  have HF : Hid (firstZ (Lib.bytesOf zs) s.data.toList f = if r = -1 then -1 else r + f) := Lib.hid (by unfold firstZ; rw [if_neg (by omega), hr])
  rw [hr] at hix hge hrm
  have hbd : 0 ≤ r → r ≤ 1000000 := fun h => by
    have := hrm h
    simp [hle] at this
    omega
  have HIX := Lib.hid hix
  have HBE := Lib.hid hbel
  clear hb hfr hle hbel hb1 hcut hsb hm1 hix edr hr hrm hm
  by_cases hneg : r < 0
  · clear hbd
    go_enter Try.func13, Try.ntmps13
    go_wp2_with (go_at_call 27; refine HIX.out.mono ?_; rintro e w' ⟨rfl, q, hq⟩; subst hq)
    go_ret
    exact ⟨ret_int (by rw [HF.out, if_pos (by omega)]), below_drewN HBE.out q⟩
  · have h1 := hbd (by omega)
    clear hbd
    go_enter Try.func13, Try.ntmps13
    go_wp2_with (go_at_call 27; refine HIX.out.mono ?_; rintro e w' ⟨rfl, q, hq⟩; subst hq)
    go_ret
    exact ⟨ret_int (by rw [HF.out, if_neg (by omega)]; omega), below_drewN HBE.out q⟩

/-- Last. -/
theorem last_any (A : Option Addr) (n c B : Nat) (zs : List Int) (s : ByteArray) (w : World) (hb : Byt w B A n c zs) (hB : B ≤ w.heap.size) (hn : n ≤ 1000000) (hs : s.size ≤ 1000000) :
    Calls Try.prog 14 #[.slice A n c, .string s] w fun e w' => e = .returned (.int .i64 (Lib.lastIndex (Lib.bytesOf zs) s.data.toList)) ∧ Below w.heap.size w w' := by
  have hbel := strZ_below w s
  have hli := lastIndex_any A _ n c B s.size _ _ zs (strZ s) (Lib.bytesWorld w 5 s) (hb.below hbel hB) (strZ_byt w s) hn hs
  rw [strZ_bytes] at hli
  have HLI := Lib.hid hli
  have HBE := Lib.hid hbel
  have hcv : ∀ W, (convert 9 25 (.string s)).run Try.prog W = .ok (.slice (some ⟨W.heap.size, 0, none⟩) s.size (grownCap W s.size 0 5)) (Lib.bytesWorld W 5 s) := fun W => Lib.run_convert_string_bytes W 9 25 5 s Try.underlying9 Try.underlying25 Try.underlying5
  clear hb hbel hli
  go_enter Try.func14, Try.ntmps14
  go_wp2_with (go_at_call 28; refine HLI.out.mono ?_; rintro e w' ⟨rfl, q, hq⟩; subst hq)
  go_ret
  exact ⟨rfl, below_drewN HBE.out q⟩
end Go.Proofs.Ytffmdlknkimlhaa
