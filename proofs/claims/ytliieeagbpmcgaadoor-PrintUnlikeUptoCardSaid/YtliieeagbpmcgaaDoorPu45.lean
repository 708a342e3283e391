/- Contracts of functions that the law calls, and what they lean on (a part). -/
import Derived.Test.YtliieeagbpmcgaaDoorShelf
import Derived.Lib.ItoaMem
import Derived.Lib.SmallJoins
import Derived.BigCall
import Derived.BigGuard
import Derived.Deep.RegionWith
import Derived.Test.YtliieeagbpmcgaaDoorPu14
namespace Go.Proofs.YtliieeagbpmcgaaDoor
section
open Go.RowKit Go.Sort
set_option linter.unusedVariables false
/-- The table of the powers of ten lies as it was laid. -/
abbrev Tab (w : World) : Prop := Lib.TabIs Tryd.prog w "internal/strconv.uint64pow10" .u64 Lib.pow10Tab
theorem Tab.below {w w' : World} (h : Tab w) {B : Nat} (hb : Below B w w') (hB : w.heap.size ≤ B) : Tab w' := Joins.tab_stays (g := 0) (by kernel_rfl) h hb hB
theorem Tab.drew {w : World} (h : Tab w) : Tab w.drew := h
theorem below_grow {B : Nat} (w : World) (hB : B ≤ w.heap.size) (k : Nat) (os : Array Obj) : Below B w (grow (w.drewN k) os) :=
  ⟨rfl, rfl, rfl, by simp [grow, World.drewN], fun i hi => by
    show (w.heap ++ os)[i]? = _
    rw [Array.getElem?_append_left (by omega)]⟩
theorem holds_zero0 (w : World) (T : TypeId) (nd : Nat) (hs : nd ≤ 24) : Holds (fun (b : UInt8) => Value.int .u8 (b.toNat : Int)) (w.alloc (.cells Lib.zeros24 T)) w.heap.size 0 (Array.replicate nd (0 : UInt8)) := fun j hj => by
  have hj' : j < nd := by simpa using hj
  refine ⟨?_, World.frozen?_alloc_new _ _ _ _⟩
  rw [World.cell?_alloc_new, Lib.zeros24_at _ (by omega), getElem!_pos _ j hj]
  simp
theorem fin_pos0 (w : World) (o : Obj) (dk : Array UInt8) (k : Nat) : ∃ os, (putRow (fun (b : UInt8) => Value.int .u8 (b.toNat : Int)) (w.alloc o) w.heap.size 0 dk).drewN k = grow (w.drewN k) os := by
  rw [alloc_eq_grow]
  obtain ⟨os', _, e⟩ := putRow_grow_new (fun (b : UInt8) => Value.int .u8 (b.toNat : Int)) w #[o] w.heap.size 0 dk (Nat.le_refl _)
  exact ⟨os', by rw [e]; rfl⟩
set_option maxHeartbeats 6400000 in
set_option maxRecDepth 100000 in
theorem intFormatUint (u : Nat) (hu64 : u < 18446744073709551616) (w : World) (htab : Tab w) :
    Calls Tryd.prog 64 #[.int .u64 u, .int .i64 10] w fun e w' => e = .returned (.string ⟨(Lib.decDigits u).toArray⟩) ∧ Below w.heap.size w w' := by
  by_cases hs : u < 100
  · have hsi : (u : Int) < 100 := by omega
    go_enter Tryd.func64, Tryd.ntmps64
    go_wp2_with (go_at_call 70; refine (Tryd.internal_strconv_small u hs _).mono ?_; rintro e w' ⟨rfl, rfl⟩)
    go_ret
    exact ⟨rfl, Below.refl _ _⟩
  · have hsi : ¬ (u : Int) < 100 := by omega
    have hu1 : 1 ≤ u := by omega
    have hnd20 : Lib.nDigits u ≤ 20 := by have := Lib.numDigits_eq u hu1 hu64; split at this <;> omega
    have hal : Tryd.prog.arrayLen 97 = 24 := by kernel_rfl
    have hsl1 : ∀ W, (Instr.sliceAt 97 (.pointer (some ⟨w.heap.size, 0, none⟩)) none (some (.int .i64 (Lib.nDigits u : Int))) none).run Tryd.prog W = .ok (.slice (some ⟨w.heap.size, 0, none⟩) (Lib.nDigits u) 24) W := fun W => by
      rw [run_sliceAt_array_h W 97 ⟨w.heap.size, 0, none⟩ Tryd.underlying97 .i64 (Lib.nDigits u : Int) (by omega) (by rw [hal]; omega)]
      go_simp
    have hH0 := holds_zero0 w 97 (Lib.nDigits u) (by omega)
    have hfmt := Tryd.internal_strconv_formatBase10 w.heap.size 0 24 u (Array.replicate (Lib.nDigits u) 0) (w.alloc (.cells Lib.zeros24 97)) hH0 (by rw [Array.size_replicate]; exact Lib.lt_pow_nDigits u) hu64 (by rw [Array.size_replicate]; omega)
    rw [Array.size_replicate] at hfmt
    have HH0 := Lib.hid hH0
    have HT := Lib.hid htab
    clear hH0 hal htab
    go_enter Tryd.func64, Tryd.ntmps64
    go_wp2_with (first
      | (go_at_call 71; refine (Tryd.internal_strconv_numDigits u hu1 hu64 _ (Lib.tabIs_alloc HT.out _)).mono ?_; rintro e w' ⟨rfl, rfl⟩))
    go_at_call 72
    refine hfmt.mono ?_
    rintro e w' ⟨rfl, k, v', dk, rfl, hF⟩
    have hcv : (convert 22 9 (.slice (some ⟨w.heap.size, 0, none⟩) (Lib.nDigits u) 24)).run Tryd.prog ((putRow (fun (b : UInt8) => Value.int .u8 (b.toNat : Int)) (w.alloc (.cells Lib.zeros24 97)) w.heap.size 0 dk).drewN k) = .ok (.string ⟨(Lib.decDigits u).toArray⟩) ((putRow (fun (b : UInt8) => Value.int .u8 (b.toNat : Int)) (w.alloc (.cells Lib.zeros24 97)) w.heap.size 0 dk).drewN k) := by
      have h := run_convert_bytes_back (P := Tryd.prog) ((putRow (fun (b : UInt8) => Value.int .u8 (b.toNat : Int)) (w.alloc (.cells Lib.zeros24 97)) w.heap.size 0 dk).drewN k) 22 9 5 ⟨w.heap.size, 0, none⟩ 24 (Lib.decDigits u) Tryd.underlying22 Tryd.underlying5 Tryd.underlying9 (fun j hj => by
        rw [Lib.row_is_numeral hF j hj, Lib.add_plain, World.cell?_drewN]
        exact cell?_putRow (fun (b : UInt8) => Value.int .u8 (b.toNat : Int)) _ w.heap.size 0 _ dk HH0.out (by rw [hF.size, Array.size_replicate]) j (by rw [hF.size]; rw [Lib.decDigits_length] at hj; exact hj))
      rw [Lib.decDigits_length] at h
      exact h
    go_wp2
    go_ret
    obtain ⟨os, eo⟩ := fin_pos0 w (.cells Lib.zeros24 97) dk k
    exact ⟨rfl, by rw [eo]; exact below_grow w (Nat.le_refl _) k os⟩
theorem formatUint (u : Nat) (hu64 : u < 18446744073709551616) (w : World) (htab : Tab w) :
    Calls Tryd.prog 54 #[.int .u64 u, .int .i64 10] w fun e w' => e = .returned (.string ⟨(Lib.decDigits u).toArray⟩) ∧ Below w.heap.size w w' := by
  have H := Lib.hid (fun W h => intFormatUint u hu64 W h)
  have HT := Lib.hid htab
  clear htab
  go_enter Tryd.func54, Tryd.ntmps54
  go_wp2_with (go_at_call 64; refine (H.out _ HT.out).mono ?_; rintro e w' ⟨rfl, hb⟩)
  go_ret
  exact ⟨rfl, hb⟩
theorem digF_dec : ∀ (f n : Nat), n < 10 ^ (f + 1) → digF (f + 1) n = Lib.decDigits n
  | 0, n, h => by rw [digF, if_pos (by omega), Lib.decDigits, dif_pos (by omega), Nat.mod_eq_of_lt (by omega)]; rfl
  | f + 1, n, h => by
    rw [digF, Lib.decDigits]
    by_cases h0 : n < 10
    · rw [if_pos (by omega), dif_pos h0, Nat.mod_eq_of_lt h0]; rfl
    · rw [if_neg (by omega), dif_neg h0, digF_dec f (n / 10) (by rw [Nat.pow_succ] at h; omega)]
theorem digB_dec (n : Nat) (h : n < 18446744073709551616) : digB n = Lib.decDigits n := digF_dec 19 n (by omega)
theorem stripR_app (x : UInt8) : ∀ ds : List UInt8, stripR (ds ++ [x]) = ds.dropWhile (· == 48) ++ [x]
  | [] => rfl
  | y :: ds => by
    have ih := stripR_app x ds
    obtain ⟨z, r, hzr⟩ : ∃ z r, ds ++ [x] = z :: r := by cases ds with | nil => exact ⟨x, [], rfl⟩ | cons a b => exact ⟨a, b ++ [x], rfl⟩
    rw [List.cons_append, hzr, stripR, ← hzr, List.dropWhile_cons]
    by_cases hy : y = 48
    · rw [if_pos hy, ih, if_pos (by simpa using hy)]
    · rw [if_neg hy, if_neg (by simpa using hy)]; rfl
theorem stripZ_eq (x : UInt8) (d : List UInt8) : stripZ (x :: d) = [x] ++ Lib.trimRightB d 48 := by
  unfold stripZ Lib.trimRightB
  rw [List.reverse_cons, stripR_app]
  simp
/-- The digits behind the point, as they are written: a first digit, and more. -/
theorem frac_parts (u : Nat) : ∃ (x : UInt8) (d : List UInt8), (Lib.decDigits (100000 + u % 100000)).drop 1 = x :: d ∧ d.length = 4 ∧ fracB u = [x] ++ Lib.trimRightB d 48 ∧ (Lib.decDigits (100000 + u % 100000)).length = 6 := by
  have h6 := digB_len6 (100000 + u % 100000) (by omega) (by omega)
  rw [digB_dec _ (by omega)] at h6
  unfold fracB
  rw [digB_dec _ (by omega)]
  match hd : Lib.decDigits (100000 + u % 100000), h6 with
  | a :: x :: d, h6 => exact ⟨x, d, rfl, by simp at h6; omega, stripZ_eq x d, by simpa using h6⟩
set_option maxHeartbeats 6400000 in
set_option maxRecDepth 100000 in
theorem fxText (n : Int) (whole : Bool) (w : World) (h0 : -9223372036854775808 ≤ n) (h1 : n ≤ 9223372036854775807) (htab : Tab w) :
    Calls Tryd.prog 39 #[.int .i64 n, .bool whole] w fun e w' => e = .returned (.string ⟨(textB n whole).toArray⟩) ∧ Below w.heap.size w w' := by
  have HT := Lib.hid htab
  cases whole
  · obtain ⟨m, hm⟩ : ∃ m, n.natAbs = m := ⟨_, rfl⟩
    have hmb : m < 18446744073709551616 := by omega
    obtain ⟨x, d, hxd, hd4, hfr, h6⟩ := frac_parts m
    obtain ⟨S6, hS6⟩ : ∃ S6 : ByteArray, ⟨(Lib.decDigits (100000 + m % 100000)).toArray⟩ = S6 := ⟨_, rfl⟩
    obtain ⟨SI, hSI⟩ : ∃ SI : ByteArray, ⟨(Lib.decDigits (m / 100000)).toArray⟩ = SI := ⟨_, rfl⟩
    have HS := Lib.hid (fun W => hm ▸ fxSize n W h0 h1)
    have HU := Lib.hid (fun W h => hS6 ▸ formatUint (100000 + m % 100000) (by omega) W h)
    have HV := Lib.hid (fun W h => hSI ▸ formatUint (m / 100000) (by omega) W h)
    have hs6 : S6.size = 6 := by rw [← hS6]; simpa [ByteArray.size] using h6
    have eu : IntKind.u64.wrap (100000 + (m : Int) % 100000) = ((100000 + m % 100000 : Nat) : Int) := by rw [IntKind.wrap_u64]; omega
    have ev : IntKind.u64.wrap ((m : Int) / 100000) = ((m / 100000 : Nat) : Int) := by rw [IntKind.wrap_u64]; omega
    have eP : S6.extract 1 6 = ⟨(x :: d).toArray⟩ := by rw [← hS6, Lib.extract_mk, ← hxd, List.take_of_length_le (by simp; omega)]
    obtain ⟨PP, hPP⟩ : ∃ PP : ByteArray, ⟨(x :: d).toArray⟩ = PP := ⟨_, rfl⟩
    rw [hPP] at eP
    have hpp : PP.size = 5 := by rw [← hPP]; simp [ByteArray.size, hd4]
    have eD : PP.extract 1 5 = ⟨d.toArray⟩ := by rw [← hPP, Lib.extract_mk, List.take_of_length_le (by simp; omega)]; rfl
    have eX : PP.extract 0 1 = ⟨#[x]⟩ := by rw [← hPP, Lib.extract_mk]; rfl
    obtain ⟨DD, hDD⟩ : ∃ DD : ByteArray, ⟨d.toArray⟩ = DD := ⟨_, rfl⟩
    obtain ⟨XX, hXX⟩ : ∃ XX : ByteArray, ⟨#[x]⟩ = XX := ⟨_, rfl⟩
    obtain ⟨TT, hTT⟩ : ∃ TT : ByteArray, ⟨(Lib.trimRightB d 48).toArray⟩ = TT := ⟨_, rfl⟩
    have htr := fun W => Tryd.strings_TrimRight_one DD 48 (by decide) W (by rw [← hDD]; simp [ByteArray.size]; omega)
    rw [← hDD] at htr
    simp only [hTT] at htr
    rw [hDD] at htr eD
    rw [hXX] at eX
    have HTR := Lib.hid htr
    have HRES : Hid (∀ sg : ByteArray, sg.data.toList = signB n → sg ++ SI ++ ⟨#[46]⟩ ++ XX ++ TT = ⟨(textB n false).toArray⟩) := Lib.hid (fun sg hsg => by
      apply ByteArray.ext
      rw [← Array.toList_inj]
      simp only [ByteArray.data_append, Array.toList_append, hsg, ← hSI, ← hXX, ← hTT]
      unfold textB
      rw [if_neg (by simp), hm, hfr, digB_dec _ (by omega)]
      simp)
    have hsi : SI.size ≤ 20 := by
      rw [← hSI, ← digB_dec _ (by omega)]
      have := digB_le (m / 100000)
      simpa [ByteArray.size] using this
    have hxx : XX.size = 1 := by rw [← hXX]; rfl
    have htt : TT.size ≤ 4 := by
      rw [← hTT, ← hd4]
      simp only [ByteArray.size, List.size_toArray]
      unfold Lib.trimRightB
      rw [List.length_reverse]
      exact Nat.le_trans (List.dropWhile_sublist _).length_le (by rw [List.length_reverse]; exact Nat.le_refl _)
    clear htab htr hSI hXX hTT hDD hPP hfr h6 hxd
    by_cases hneg : n < 0
    · have hsg : signB n = [45] := by unfold signB; rw [if_pos hneg]
      have HSG := Lib.hid hsg
      clear hsg
      go_enter Tryd.func39, Tryd.ntmps39
      go_wp2_with (first
        | (go_at_call 53; refine (HS.out _).mono ?_; rintro e w' ⟨rfl, rfl⟩)
        | (go_at_call 54; refine (HU.out _ HT.out).mono ?_; rintro e w2 ⟨rfl, hb2⟩))
      have HT2 := Lib.hid (Tab.below HT.out hb2 (Nat.le_refl _))
      go_region_with (first
        | (go_at_call 54; refine (HV.out _ (Tab.drew HT2.out)).mono ?_; rintro e w3 ⟨rfl, hb3⟩)
        | (go_at_call 55; refine (HTR.out _).mono ?_; rintro e w4 ⟨rfl, rfl⟩))
      all_goals
        go_wp2
        go_ret
        exact ⟨by rw [← HRES.out ⟨#[45]⟩ (by rw [HSG.out])]; try rfl, hb2.drew.trans (hb3.mono hb2.size)⟩
    · have hsg : signB n = [] := by unfold signB; rw [if_neg hneg]
      have HSG := Lib.hid hsg
      clear hsg
      go_enter Tryd.func39, Tryd.ntmps39
      go_wp2_with (first
        | (go_at_call 53; refine (HS.out _).mono ?_; rintro e w' ⟨rfl, rfl⟩)
        | (go_at_call 54; refine (HU.out _ HT.out).mono ?_; rintro e w2 ⟨rfl, hb2⟩))
      have HT2 := Lib.hid (Tab.below HT.out hb2 (Nat.le_refl _))
      go_region_with (first
        | (go_at_call 54; refine (HV.out _ (Tab.drew HT2.out)).mono ?_; rintro e w3 ⟨rfl, hb3⟩)
        | (go_at_call 55; refine (HTR.out _).mono ?_; rintro e w4 ⟨rfl, rfl⟩))
      all_goals
        go_wp2
        go_ret
        exact ⟨by rw [← HRES.out ⟨#[]⟩ (by rw [HSG.out])]; try rfl, hb2.drew.trans (hb3.mono hb2.size)⟩
  · have hv : textB n true = Lib.itoa n := by
      unfold textB signB Lib.itoa
      rw [if_pos rfl, digB_dec _ (by omega)]
      split
      · rfl
      · rw [List.nil_append]; congr 1; omega
    rw [hv]
    have H := Lib.hid (fun W h => Tryd.strconv_FormatInt_10 n h0 h1 W h)
    clear htab hv h0 h1
    go_enter Tryd.func39, Tryd.ntmps39
    go_wp2_with (go_at_call 52; refine (H.out _ HT.out).mono ?_; rintro e w' ⟨rfl, k, os, rfl⟩)
    go_ret
    exact ⟨rfl, below_grow w (Nat.le_refl _) k os⟩
end
end Go.Proofs.YtliieeagbpmcgaaDoor
