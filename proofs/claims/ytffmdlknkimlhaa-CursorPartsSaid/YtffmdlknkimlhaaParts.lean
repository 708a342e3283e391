/- CursorParts answers true, whatever the parts and the number. No condition on the input. -/
import Derived.Test.YtffmdlknkimlhaaConcat
import Derived.Test.YtffmdlknkimlhaaFinds
namespace Go.Proofs.Ytffmdlknkimlhaa
open Go.ChangeShapes Go.WideShapes Go.ChangeAt Go.RowKit Go.Deep
set_option linter.unusedVariables false

theorem catZ_split (Z : Nat → List Int) (i : Nat) : ∀ n, i ≤ n → ∃ r, catZ Z n = catZ Z i ++ r
  | 0, h => ⟨[], by rw [show i = 0 by omega]; rfl⟩
  | n + 1, h => by
    rcases Nat.lt_or_ge i (n + 1) with hlt | hge
    · obtain ⟨r, hr⟩ := catZ_split Z i n (by omega)
      exact ⟨r ++ Z n, by rw [catZ, hr, List.append_assoc]⟩
    · exact ⟨[], by rw [show i = n + 1 by omega, List.append_nil]⟩
theorem catZ_rng (Z : Nat → List Int) : ∀ n, (∀ i, i < n → ∀ z ∈ Z i, 0 ≤ z ∧ z < 256) → ∀ z ∈ catZ Z n, 0 ≤ z ∧ z < 256
  | 0, _ => fun _ h => by cases h
  | n + 1, h => fun z hz => by
    rcases List.mem_append.1 hz with h1 | h1
    · exact catZ_rng Z n (fun i hi => h i (by omega)) z h1
    · exact h n (by omega) z h1
theorem occ_part (Z : Nat → List Int) (i n : Nat) (h : i < n) : Lib.occAt (Lib.bytesOf (catZ Z n)) (Lib.bytesOf (Z i)) (catZ Z i).length = true := by
  obtain ⟨r, hr⟩ := catZ_split Z (i + 1) n (by omega)
  have e : Lib.bytesOf (catZ Z n) = Lib.bytesOf (catZ Z i) ++ (Lib.bytesOf (Z i) ++ Lib.bytesOf r) := by
    rw [hr, catZ]
    simp [Lib.bytesOf]
  unfold Lib.occAt
  rw [e, List.drop_append_of_le_length (by rw [bytesOf_length]; omega), List.drop_of_length_le (by rw [bytesOf_length]; omega), List.nil_append]
  rw [List.isPrefixOf_iff_prefix]
  exact List.prefix_append _ _
theorem first_le (l sub : List UInt8) (p : Nat) (hp : p ≤ l.length) (ho : Lib.occAt l sub p = true) : 0 ≤ firstZ l sub 0 ∧ firstZ l sub 0 ≤ p := by
  unfold firstZ
  rw [if_neg (by omega), List.drop_zero]
  rcases Lib.index_spec l sub with ⟨_, hn⟩ | ⟨i, hi, _, _, hn⟩
  · rw [hn p hp] at ho; cases ho
  · rw [hi, if_neg (by omega)]
    rcases Nat.lt_or_ge p i with hlt | hge
    · rw [hn p hlt] at ho; cases ho
    · omega
theorem first_at (l sub : List UInt8) (p : Nat) (hp : p ≤ l.length) (ho : Lib.occAt l sub p = true) : firstZ l sub p = p := firstZ_hit l sub p p (Nat.le_refl _) hp ho (fun j h1 h2 => by omega)
theorem last_ge (l sub : List UInt8) (p : Nat) (hp : p + sub.length ≤ l.length) (ho : Lib.occAt l sub p = true) : (p : Int) ≤ Lib.lastIndex l sub := by
  unfold Lib.lastIndex
  rw [if_pos (by omega)]
  rcases Lib.lastOcc_spec l sub (l.length - sub.length + 1) with ⟨_, hn⟩ | ⟨i, _, hi, _, hn⟩
  · rw [hn p (by omega)] at ho; cases ho
  · rw [hi]
    rcases Nat.lt_or_ge i p with hlt | hge
    · rw [hn p hlt (by omega)] at ho; cases ho
    · omega
theorem last_le (l sub : List UInt8) : Lib.lastIndex l sub ≤ l.length ∧ -1 ≤ Lib.lastIndex l sub := by
  unfold Lib.lastIndex
  split
  · rcases Lib.lastOcc_spec l sub (l.length - sub.length + 1) with ⟨e, _⟩ | ⟨i, h, hi, _, _⟩
    · rw [e]; omega
    · rw [hi]; omega
  · omega
theorem catZ_part_len (Z : Nat → List Int) (i n : Nat) (h : i < n) : (catZ Z i).length + (Z i).length ≤ (catZ Z n).length := by
  obtain ⟨r, hr⟩ := catZ_split Z (i + 1) n (by omega)
  rw [hr, catZ]
  simp only [List.length_append]
  omega
theorem Mine.byt2 {w : World} {base p : Nat} {v : Value} {zs : List Int} (h : Mine w base v p zs) : ∃ A c, v = .slice A p c ∧ Byt w w.heap.size A p c zs ∧ (A = none → c = 0) := by
  obtain ⟨A, c, hv, hb⟩ := h.byt
  refine ⟨A, c, hv, hb, fun hA => ?_⟩
  rcases h.own.2 with ⟨e, h0⟩ | ⟨b, cap, cur, e, _⟩
  · rw [hv] at e; injection e
  · rw [hv, hA] at e; injection e with e; cases e

/-- Where the part 'wi' begins, once it has been put. -/
def atZ (Z : Nat → List Int) (wi k : Nat) : Nat := if wi < k then (catZ Z wi).length else 0

set_option maxRecDepth 100000 in
set_option maxHeartbeats 2000000 in
theorem parts_walk (A : Option Addr) (n c : Nat) (As : Nat → Option Addr) (Ns Cs : Nat → Nat) (Z : Nat → List Int) (z : Int) (m : Int) (w : World) (hp : Parts w w.heap.size A n As Ns Cs Z) (hn : n ≤ 9223372036854775807) (hNs : ∀ i, i < n → Ns i ≤ 9223372036854775807) (hz : 0 ≤ z ∧ z < 256) (hm : w.cell? ⟨0, 0, none⟩ = some (.int .i64 m)) :
    Calls Try.prog 6 #[.slice A n c, .int .u8 z] w fun e w' => e = .returned (.bool true) ∧ Below w.heap.size w w' := by
  have HAW := Lib.hid (awake_any w)
  have HP := Lib.hid hp
  have HM := Lib.hid hm
  have HNS := Lib.hid hNs
  obtain ⟨hz0, hz1⟩ := hz
  clear hp hm hNs
  by_cases h1 : 60 < n
  · go_enter Try.func6, Try.ntmps6
    go_wp2_with (go_at_call 8; refine HAW.out.mono ?_; rintro e w1 ⟨rfl, hb1⟩)
    go_ret
    exact ⟨rfl, hb1⟩
  go_enter Try.func6, Try.ntmps6
  go_wp2_with (go_at_call 8; refine HAW.out.mono ?_; rintro e w1 ⟨rfl, hb1⟩)
  have HB1 := Lib.hid hb1
  clear hb1
  obtain ⟨wi, hwi⟩ : ∃ wi : Nat, z % (max (n : Int) 1) = wi := ⟨(z % (max (n : Int) 1)).toNat, by
    have := Int.emod_nonneg z (show max (n : Int) 1 ≠ 0 by omega)
    omega⟩
  have hwn : 0 < n → wi < n := fun h => by
    have h2 := Int.emod_lt_of_pos z (show 0 < max (n : Int) 1 by omega)
    omega
  have HWI := Lib.hid hwi
  have HWN := Lib.hid hwn
  clear hwi hwn
  go_loopw [5, 6, 7] (fun v at_ i wr => ∃ k : Nat, k ≤ n ∧ i = .int .i64 k ∧ at_ = .int .i64 (atZ Z wi k : Nat) ∧ (∀ j, j < k → (Z j).length ≤ 200) ∧ Mine wr w1.heap.size v (catZ Z k).length (catZ Z k) ∧ Below w1.heap.size w1 wr) (fun _ _ i _ => n - (intOf i).toNat)
  case atStart => exact ⟨0, Nat.zero_le _, rfl, rfl, fun j h => absurd h (by omega), Mine.nil _ _, Below.refl _ _⟩
  case round =>
    obtain ⟨k, hk, rfl, rfl, hall, hmi, hbe⟩ := hrel
    have HALL := Lib.hid hall
    have HMI := Lib.hid hmi
    have HBE := Lib.hid hbe
    have hl := catZ_len HALL.out k (Nat.le_refl _)
    clear hall hmi hbe
    by_cases hlt : k < n
    · have hpj := (HP.out.below HB1.out (Nat.le_refl _)).below HBE.out HB1.out.size
      obtain ⟨b, o, rfl, _, hc⟩ := hpj.cell (by omega)
      have ck := hc k hlt
      have hby := hpj.byt k hlt
      have hln := hby.len
      have HBY := Lib.hid hby
      have HLN := Lib.hid hln
      have hns := HNS.out k hlt
      by_cases hbig : 200 < Ns k
      · clear hpj hc hby hln
        go_wp2
        go_ret
        exact ⟨rfl, HB1.out.trans (HBE.out.mono HB1.out.size)⟩
      have hN200 : Ns k ≤ 200 := by omega
      have HAP := Lib.hid (HMI.out.append hby 25 (by omega) HBE.out.size)
      have HCL : Hid ((catZ Z (k + 1)).length = (catZ Z k).length + Ns k) := Lib.hid (by simp only [catZ, List.length_append]; rw [hln])
      have HALL2 : Hid (∀ j, j < k + 1 → (Z j).length ≤ 200) := Lib.hid (fun j hj => by
        rcases Nat.lt_or_ge j k with h | h
        · exact HALL.out j h
        · rw [show j = k by omega, hln]; exact hN200)
      obtain ⟨A6, c6, rfl, _⟩ := HMI.out.byt
      have hwi1 : z % (n : Int) = wi := by
        have h := HWI.out
        rwa [show max (n : Int) 1 = n by omega] at h
      have hwi2 := HWI.out
      clear hpj hc hby hln
      by_cases hkw : k = wi
      · subst hkw
        have HAT : Hid (atZ Z k (k + 1) = (catZ Z k).length) := Lib.hid (by unfold atZ; rw [if_pos (by omega)])
        obtain ⟨LK, hLK⟩ : ∃ LK, (catZ Z k).length = LK := ⟨_, rfl⟩
        have HLK := Lib.hid hLK
        rw [hLK]
        clear hLK
        go_wp2_with (at_builtin; obtain ⟨v6, w6, hrun, hmi6, hbe6⟩ := HAP.out; rw [HLK.out] at hrun; refine Lib.wpList_append_run_sl _ rfl (.tmp 38) (.tmp 42) 25 rfl _ _ rfl rfl hrun ?_; clear hrun)
        have hmi7 : Mine w6 w1.heap.size v6 (catZ Z (k + 1)).length (catZ Z (k + 1)) := by rw [HCL.out]; exact hmi6
        go_roundw
        case rel => exact ⟨k + 1, by omega, by go_num, by rw [HAT.out, HLK.out], HALL2.out, hmi7, HBE.out.trans hbe6⟩
        case measure => simp [intOf]; omega
      · have HAT : Hid (atZ Z wi (k + 1) = atZ Z wi k) := Lib.hid (by
          unfold atZ
          rcases Nat.lt_or_ge wi k with h | h
          · rw [if_pos (by omega), if_pos h]
          · rw [if_neg (by omega), if_neg (by omega)])
        have hne : ((k : Int) == (wi : Int)) = false := beq_eq_false_iff_ne.2 (by omega)
        obtain ⟨LK, hLK⟩ : ∃ LK, (catZ Z k).length = LK := ⟨_, rfl⟩
        have HLK := Lib.hid hLK
        rw [hLK]
        obtain ⟨AT, hAT⟩ : ∃ AT, atZ Z wi k = AT := ⟨_, rfl⟩
        have HATT := Lib.hid hAT
        rw [hAT]
        clear hLK hAT
        go_wp2_with (at_builtin; obtain ⟨v6, w6, hrun, hmi6, hbe6⟩ := HAP.out; rw [HLK.out] at hrun; refine Lib.wpList_append_run_sl _ rfl (.tmp 38) (.tmp 42) 25 rfl _ _ rfl rfl hrun ?_; clear hrun)
        have hmi7 : Mine w6 w1.heap.size v6 (catZ Z (k + 1)).length (catZ Z (k + 1)) := by rw [HCL.out]; exact hmi6
        go_roundw
        case rel => exact ⟨k + 1, by omega, by go_num, by rw [HAT.out, HATT.out], HALL2.out, hmi7, HBE.out.trans hbe6⟩
        case measure => simp [intOf]; omega
    · obtain rfl : k = n := by omega
      have HPJ := Lib.hid ((HP.out.below HB1.out (Nat.le_refl _)).below HBE.out HB1.out.size)
      have HSZ := Lib.hid (Nat.le_trans HB1.out.size HBE.out.size)
      obtain ⟨A6, c6, rfl, hby6, hnil6⟩ := HMI.out.byt2
      have HBY6 := Lib.hid hby6
      have HN6 := Lib.hid hnil6
      have HLT := Lib.hid hlt
      have hmr := (HB1.out.trans (HBE.out.mono HB1.out.size)).cell (p := ⟨0, 0, none⟩) (cell_lt HM.out)
      have HMR := Lib.hid (hmr.trans HM.out)
      have hl12 : (catZ Z k).length ≤ 12000 := by omega
      have HL := Lib.hid hl12
      clear hby6 hnil6 hlt hmr hl hl12
      by_cases hn0 : k = 0
      · subst hn0
        go_wp2_with (first
          | (go_at_call 21; refine (of_any A 0 c _ As Ns Cs Z wr HPJ.out HSZ.out (by omega) HALL.out).mono ?_; rintro e w7 ⟨v7, rfl, hmi7, hbe7⟩; obtain ⟨A7, c7, rfl, hby7⟩ := hmi7.byt)
          | (go_at_call 22; refine (refSame_yes A7 A6 _ c7 _ c6 _ _ w7 hby7 (HBY6.out.below hbe7 (Nat.le_refl _)) (by have := HL.out; omega)).mono ?_; rintro e w' ⟨rfl, q8, hq8⟩; subst hq8))
        go_ret
        exact ⟨rfl, below_drewN ((HB1.out.trans (HBE.out.mono HB1.out.size)).trans (hbe7.mono HSZ.out)) q8⟩
      · have hw := HWN.out (by omega)
        have hwi1 : z % (k : Int) = wi := by
          have h := HWI.out
          rwa [show max (k : Int) 1 = k by omega] at h
        have HAT : Hid (atZ Z wi k = (catZ Z wi).length) := Lib.hid (by unfold atZ; rw [if_pos hw])
        have hpl := catZ_part_len Z wi k hw
        have hsz : (strOfNums (Z wi)).size = (Z wi).length := strOfNums_size _
        have hdat : (strOfNums (Z wi)).data.toList = Lib.bytesOf (Z wi) := strOfNums_data _
        have hocc := occ_part Z wi k hw
        have hle : (catZ Z wi).length ≤ (Lib.bytesOf (catZ Z k)).length := by rw [bytesOf_length]; omega
        have hf := first_le _ _ _ hle hocc
        have hfa := first_at _ _ _ hle hocc
        have hla := last_ge _ (Lib.bytesOf (Z wi)) (catZ Z wi).length (by rw [bytesOf_length, bytesOf_length]; exact hpl) hocc
        have hlb := last_le (Lib.bytesOf (catZ Z k)) (Lib.bytesOf (Z wi))
        rw [bytesOf_length] at hlb
        rw [← hdat] at hf hfa hla hlb
        have hs200 : (strOfNums (Z wi)).size ≤ 200 := by rw [hsz]; exact HALL.out wi hw
        obtain ⟨s, hs⟩ : ∃ s, strOfNums (Z wi) = s := ⟨_, rfl⟩
        have hcv : ∀ W, Byt W w.heap.size (As wi) (Ns wi) (Cs wi) (Z wi) → (convert 25 9 (.slice (As wi) (Ns wi) (Cs wi))).run Try.prog W = .ok (.string s) W := fun W hW => by
          rw [← hs]; exact hW.inn.convert (P := Try.prog) hW.len (Cs wi) 25 5 9 Try.underlying25 Try.underlying5 Try.underlying9
        rw [hs] at hf hfa hla hlb hs200
        obtain ⟨AT, hAT⟩ : ∃ AT, (catZ Z wi).length = AT := ⟨_, rfl⟩
        obtain ⟨F0, hF0⟩ : ∃ F0, firstZ (Lib.bytesOf (catZ Z k)) s.data.toList 0 = F0 := ⟨_, rfl⟩
        obtain ⟨LA, hLA⟩ : ∃ LA, Lib.lastIndex (Lib.bytesOf (catZ Z k)) s.data.toList = LA := ⟨_, rfl⟩
        rw [hAT] at hf hfa hla hpl
        rw [hF0] at hf
        rw [hLA] at hla hlb
        have hatle : AT ≤ 12000 := by have := HL.out; omega
        have HATT := Lib.hid (HAT.out.trans hAT)
        have HF0 := Lib.hid hF0
        have HLA := Lib.hid hLA
        have HFA := Lib.hid hfa
        have HCV := Lib.hid hcv
        obtain ⟨hf0, hf1⟩ := hf
        obtain ⟨hlb1, hlb2⟩ := hlb
        rw [HATT.out]
        obtain ⟨b, o, rfl, hbl, hc⟩ := HPJ.out.cell (by omega)
        have HCW := Lib.hid (hc wi hw)
        have HBW := Lib.hid (HPJ.out.byt wi hw)
        have hk0 : ((k : Int) == 0) = false := beq_eq_false_iff_ne.2 (by omega)
        clear hpl hsz hdat hocc hle hs hcv hAT hF0 hLA hfa hc
        go_wp2_with (first
          | (go_at_call 21; refine (of_any _ k c _ As Ns Cs Z wr HPJ.out HSZ.out (by omega) HALL.out).mono ?_; rintro e w7 ⟨v7, rfl, hmi7, hbe7⟩; obtain ⟨A7, c7, rfl, hby7⟩ := hmi7.byt)
          | (go_at_call 22; refine (refSame_yes A7 A6 _ c7 _ c6 _ _ w7 hby7 (HBY6.out.below hbe7 (Nat.le_refl _)) (by have := HL.out; omega)).mono ?_; rintro e w' ⟨rfl, q8, hq8⟩; subst hq8; have ck := (hbe7.cell (p := ⟨b, o + wi, none⟩) (Nat.lt_of_lt_of_le hbl HSZ.out)).trans HCW.out; have hcv := HCV.out (w7.drewN q8) ((HBW.out.below hbe7 HSZ.out).drewN q8); have hby8 := (HBY6.out.below hbe7 (Nat.le_refl _)).drewN q8; have hm8 : (w7.drewN q8).cell? ⟨0, 0, none⟩ = some (.int .i64 m) := (hbe7.cell (p := ⟨0, 0, none⟩) (cell_lt HMR.out)).trans HMR.out)
          | (go_at_call 13; have hfi := find_nat A6 _ c6 _ _ s 0 m (w7.drewN q8) hby8 hbe7.size HN6.out (by have := HL.out; omega) (by omega) (by omega) 0 (.inl rfl) hm8; rw [HF0.out] at hfi; (with_reducible refine hfi.mono ?_); clear hfi; rintro e w9 ⟨rfl, hb9⟩; have hby9 := hby8.below hb9 hbe7.size; have hm9 := (hb9.cell (p := ⟨0, 0, none⟩) (cell_lt hm8)).trans hm8; clear hm8)
          | (go_at_call 14; have hfi := last_any A6 _ c6 _ _ s w9 hby9 (Nat.le_trans hbe7.size hb9.size) (by have := HL.out; omega) (by omega); rw [HLA.out] at hfi; (with_reducible refine hfi.mono ?_); clear hfi; rintro e w10 ⟨rfl, hb10⟩; have hby10 := hby9.below hb10 (Nat.le_trans hbe7.size hb9.size); have hm10 := (hb10.cell (p := ⟨0, 0, none⟩) (cell_lt hm9)).trans hm9; clear hm9)
          | (go_at_call 13; have hfi := find_nat A6 _ c6 _ _ s AT m w10 hby10 (Nat.le_trans (Nat.le_trans hbe7.size hb9.size) hb10.size) HN6.out (by have := HL.out; omega) (by omega) (by omega) AT (.inl rfl) hm10; rw [HFA.out] at hfi; (with_reducible refine hfi.mono ?_); clear hfi; rintro e w11 ⟨rfl, hb11⟩))
        go_ret
        have b7 := (HB1.out.trans (HBE.out.mono HB1.out.size)).trans (hbe7.mono HSZ.out)
        have b8 : Below w.heap.size w (w7.drewN q8) := below_drewN b7 q8
        have b9 := b8.trans (hb9.mono b8.size)
        have b10 := b9.trans (hb10.mono b9.size)
        exact ⟨rfl, b10.trans (hb11.mono b10.size)⟩

section
variable {H : Type} {enc : TypeId × Value → H} {W : World} {base : Nat} {sp : Nat → Bool} {held : Bool}
/-- One part, opened. -/
theorem open_part {fuel : Nat} {cs : List Value} {x : DataW H × List MemPlace} (hf : DataW.trod enc Try.prog W base sp held fuel 25 cs = some x) (hsp : ∀ b, sp b = true) :
    ∃ (A : Option Addr) (len cap : Nat) (zs : List Int), cs = [.slice A len cap] ∧ Byt W W.heap.size A len cap zs ∧ cap ≤ maxLen := by
  rcases open_ints Try.underlying25 Try.underlying5 (by kernel_rfl) hf with ⟨hcs, _⟩ | ⟨a, l, c, zs, hcs, _, hl, hm, hz, _, hcell, hwz⟩
  · exact ⟨none, 0, 0, [], hcs, Byt.none_ _ _, Nat.zero_le _⟩
  · exact ⟨some a, l, c, _, hcs, byt_of_cells hl (by simpa [hsp] using hz) hcell hwz, hm⟩

/-- A slice of parts, opened. -/
theorem open_parts {A : Option Addr} {len cap : Nat} {d : DataW H} {p : List MemPlace} (h : DataW.Trod enc Try.prog W base sp held 38 (.slice A len cap) d p) (hsp : ∀ b, sp b = true) :
    ∃ (As : Nat → Option Addr) (Ns Cs : Nat → Nat) (Z : Nat → List Int), len ≤ 9223372036854775807 ∧ Parts W W.heap.size A len As Ns Cs Z ∧ ∀ i, i < len → Ns i ≤ 9223372036854775807 := by
  obtain ⟨fuel, hf⟩ := h
  have hmx : maxLen = 9223372036854775807 := by decide
  rcases open_slice Try.underlying38 hf with ⟨hcs, _⟩ | ⟨a, l, c, m, n, D, Pl, hcs, _, hl, hm, hmm, _, hi⟩
  · simp [Value.cells] at hcs
    obtain ⟨rfl, rfl, rfl⟩ := hcs
    exact ⟨fun _ => none, fun _ => 0, fun _ => 0, fun _ => [], by omega, ⟨fun h => absurd h (by omega), fun i h => absurd h (by omega)⟩, fun i h => absurd h (by omega)⟩
  · simp [Value.cells] at hcs
    obtain ⟨rfl, rfl, rfl⟩ := hcs
    have hC : Try.prog.cellsOf 25 = 1 := by kernel_rfl
    rw [hsp] at hmm
    have one : ∀ i, i < len → ∃ (Ai : Option Addr) (Ni Ci : Nat) (zs : List Int), W.cell? (a.add i) = some (.slice Ai Ni Ci) ∧ Byt W W.heap.size Ai Ni Ci zs ∧ Ci ≤ maxLen := by
      intro i him
      obtain ⟨cs', hc, ht'⟩ := hi i (by simp at hmm; omega)
      obtain ⟨Ai, Ni, Ci, zs, rfl, hb, hcm⟩ := open_part ht' hsp
      rw [hC, Nat.mul_one] at hc
      obtain ⟨_, _, hat⟩ := World.cells?_some hc
      have h0 := hat 0 (by omega)
      have e0 : (a.add i).add 0 = a.add i := by rw [Go.Deep.add_add, Nat.add_zero]
      rw [e0] at h0
      exact ⟨Ai, Ni, Ci, zs, h0, hb, hcm⟩
    have hlen : len ≤ 9223372036854775807 := by omega
    rcases Nat.eq_zero_or_pos len with h0 | h0
    · exact ⟨fun _ => none, fun _ => 0, fun _ => 0, fun _ => [], hlen, ⟨fun h => absurd h (by omega), fun i h => absurd h (by omega)⟩, fun i h => absurd h (by omega)⟩
    obtain ⟨x, _, _, _, hx, _⟩ := one 0 h0
    obtain ⟨b, o, spot⟩ := a
    obtain rfl : spot = none := by simpa [Addr.add] using World.cell?_spot hx
    have hbl : b < W.heap.size := by have := cell_lt hx; simpa [Addr.add] using this
    have two : ∀ i, ∃ (Ai : Option Addr) (Ni Ci : Nat) (zs : List Int), i < len → W.cell? ⟨b, o + i, none⟩ = some (.slice Ai Ni Ci) ∧ Byt W W.heap.size Ai Ni Ci zs ∧ Ci ≤ maxLen := by
      intro i
      rcases Nat.lt_or_ge i len with hlt | hge
      · obtain ⟨Ai, Ni, Ci, zs, e0, hb, hcm⟩ := one i hlt
        simp only [add_plain] at e0
        exact ⟨Ai, Ni, Ci, zs, fun _ => ⟨e0, hb, hcm⟩⟩
      · exact ⟨none, 0, 0, [], fun h => absurd h (by omega)⟩
    exact ⟨fun i => (two i).choose, fun i => (two i).choose_spec.choose, fun i => (two i).choose_spec.choose_spec.choose, fun i => (two i).choose_spec.choose_spec.choose_spec.choose, hlen,
      ⟨fun _ => ⟨b, o, rfl, hbl, fun i hlt => ((two i).choose_spec.choose_spec.choose_spec.choose_spec hlt).1⟩, fun i hlt => ((two i).choose_spec.choose_spec.choose_spec.choose_spec hlt).2.1⟩,
      fun i hlt => by
        have h := (two i).choose_spec.choose_spec.choose_spec.choose_spec hlt
        have h1 := h.2.1.cap
        have h2 := h.2.2
        exact Nat.le_trans h1 (Nat.le_trans h2 (Nat.le_of_eq hmx))⟩
end

set_option maxRecDepth 100000 in
theorem parts_lifted (os : Os) (started : os.Started) (H : Type) (enc : TypeId × Value → H) :
    ReturnsInHanded {} Try.checked os 6 .any (Rows.cursorPartsSpec.pre6 enc Try.prog Try.f6 Rows.cursorPartsRow.domain false) (Rows.cursorPartsSpec.post enc Try.prog Try.f6 false true false false) := by
  refine returnsInHanded_of_change_shaped (C := Try.checked) own started (by kernel_rfl) Try.func6
    (ChangeSpec.witness6 (enc := enc) (C := Try.checked) false ⟨#[], #[.slice none 0 0, .int .u8 0], []⟩ 8 (by kernel_rfl) (by kernel_rfl) (by kernel_rfl) (by kernel_rfl)) ?_
  intro W base args ds gs before hval0 hW hcnd _ hsh _
  have hval : ∀ (j : Nat) t v, Try.f6.params[j]? = some t → args[j]? = some v → Value.okWide Try.prog W .any base t v := hval0
  have hW' := hW
  obtain ⟨p, q, hA0, hV, rfl, hfz, hnd⟩ := hW
  have hA : DataW.TrodAll enc Try.prog W 0 (fun _ => true) true Try.f6.params.toList args.toList ds p := hA0
  rw [Try.params6] at hA hval
  obtain ⟨v0, vs0, d0, ds0, p0, q0, hargs, rfl, rfl, h0, r0⟩ := trodAll_cons hA
  obtain ⟨v1, vs1, d1, ds1, p1, q1, rfl, rfl, rfl, h1, r1⟩ := trodAll_cons r0
  obtain ⟨rfl, rfl, rfl⟩ := trodAll_nil r1
  obtain rfl : args = #[v0, v1] := by cases args; simp_all
  obtain ⟨rfl, rfl⟩ := trodVars_none hV
  obtain ⟨a0, len0, cap0, rfl⟩ := okWide_slice Try.underlying38 (hval 0 38 v0 rfl rfl)
  have lt0 : ∀ x ∈ p0, x.block < W.heap.size := by obtain ⟨m, hm⟩ := h0; exact DataW.trod_lt m _ _ _ hm
  obtain ⟨As, Ns, Cs, Z, hln0, hpt, hns⟩ := open_parts h0 (fun _ => rfl)
  obtain ⟨a2, rfl, rfl, rfl, w2⟩ := open_int Try.underlying5 (hval 1 5 v1 rfl rfl) h1
  obtain ⟨m, hm⟩ := Try.laysM185.s1_3 W hsh
  have hm' : W.cell? ⟨0, 0, none⟩ = some (.int .i64 m) := hm
  clear hA0 hval0
  refine (parts_walk a0 len0 cap0 As Ns Cs Z a2 m W hpt hln0 hns (byte_wf w2) hm').mono fun e W' ⟨he, bel⟩ => ?_
  subst he
  exact ⟨_, rfl, _, _, _, [], _, [], hW', trodAll_mk1 (shut_bool Try.underlying4 _), (trodAll_cons_mk (Below.trod laidOut (by kernel_rfl) (of_decide_eq_true (by kernel_rfl)) h0 bel lt0) (trodAll_cons_mk (shut_int Try.underlying5 w2) trodAll_mk0)), rfl, bel.frame _, fun h => by cases h⟩

/-- CursorParts: it answers true, whatever the parts and the number. -/
theorem parts_holds : Rows.CursorPartsSaid :=
  OpenClaim.holds_of_wide 6 Try.f6 rfl rfl rfl rfl rfl rfl rfl ⟨rfl, rfl, rfl, rfl, rfl⟩ rfl rfl rfl rfl rfl (by kernel_rfl) Try.func6 (by kernel_rfl)
    (of_decide_eq_true (by kernel_rfl)) (by unfold Func.isWrapper; first | (rw [if_pos (by decide +kernel)]; kernel_rfl) | (rw [if_neg (by decide +kernel)]; exact ⟨rfl, rfl⟩))
    (fun os started H enc _ => parts_lifted os started H enc)
#print axioms parts_holds
end Go.Proofs.Ytffmdlknkimlhaa
