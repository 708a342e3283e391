/- What the project's sums answers, in the form that chapter 3's laws ask of it. -/
import Derived.Test.YtginbilakdenmaaRef3
import Derived.Test.YtginbilakdenmaaChunk
namespace Go.Proofs.Ytginbilakdenmaa
open Go.RowKit Go.BigFrame
set_option linter.unusedVariables false
set_option maxRecDepth 100000
attribute [local go_sem] Oper.semAt_some

/-- The first k whole numbers' sum: how far the upper half may have grown. -/
def tri : Nat → Nat
  | 0 => 0
  | k + 1 => tri k + (k + 1)
theorem tri_eq : ∀ k, 2 * tri k = k * (k + 1)
  | 0 => rfl
  | k + 1 => by rw [tri, Nat.mul_add, tri_eq k, Nat.add_mul]; simp only [Nat.mul_add]; omega
theorem tri_le {k : Nat} (h : k ≤ 5552) : tri k ≤ 15415128 := by
  have := tri_eq k
  have h2 : k * (k + 1) ≤ 5552 * 5553 := Nat.mul_le_mul h (by omega)
  omega
/-- The j-th part of the bytes. -/
def chZ (zs : List Int) (m j : Nat) : List Int := (zs.drop (m * j)).take m
theorem chZ_all (zs : List Int) (m : Nat) : ∀ N, (List.range N).flatMap (chZ zs m) = zs.take (m * N)
  | 0 => by simp
  | N + 1 => by
    rw [List.range_succ, List.flatMap_append, chZ_all zs m N, Nat.mul_add, Nat.mul_one, List.take_add]
    simp [chZ]
theorem stepA_mod (a b z : Int) : ((a + z) % 65521 = (a % 65521 + z) % 65521) ∧ ((b + (a + z)) % 65521 = (b % 65521 + (a % 65521 + z) % 65521) % 65521) := by omega

theorem KpC.set {n₀ Bs Bm : Nat} {A B : World} (h : KpC n₀ Bs Bm A B) {b : Nat} (h1 : n₀ ≤ b) (h2 : b ≠ Bs) (h3 : b ≠ Bm) (v : Value) : KpC n₀ Bs Bm A (B.setCell ⟨b, 0, none⟩ v) :=
  ⟨h.below.setCell (p := ⟨b, 0, none⟩) h1 v, (Below.heap_setCell _ _ _ _ (fun e => h2 e.symm)).trans h.bs, (Below.heap_setCell _ _ _ _ (fun e => h3 e.symm)).trans h.bm⟩

theorem put2 {wr : World} {L U : Nat} (hne : L ≠ U) {x y : Value} (hl : wr.cell? ⟨L, 0, none⟩ = some x) (hlf : wr.frozen? ⟨L, 0, none⟩ = false) (hu : wr.cell? ⟨U, 0, none⟩ = some y) (huf : wr.frozen? ⟨U, 0, none⟩ = false) (v1 v2 : Value) :
    ((wr.setCell ⟨L, 0, none⟩ v1).setCell ⟨U, 0, none⟩ v2).cell? ⟨L, 0, none⟩ = some v1 ∧ ((wr.setCell ⟨L, 0, none⟩ v1).setCell ⟨U, 0, none⟩ v2).frozen? ⟨L, 0, none⟩ = false ∧
      ((wr.setCell ⟨L, 0, none⟩ v1).setCell ⟨U, 0, none⟩ v2).cell? ⟨U, 0, none⟩ = some v2 ∧ ((wr.setCell ⟨L, 0, none⟩ v1).setCell ⟨U, 0, none⟩ v2).frozen? ⟨U, 0, none⟩ = false := by
  have e1 := World.cell?_setCell_same' wr ⟨L, 0, none⟩ v1 (by rw [hl]; rfl)
  have e2 : (wr.setCell ⟨L, 0, none⟩ v1).cell? ⟨U, 0, none⟩ = some y := (cell_at (Below.heap_setCell _ _ _ _ (fun e => hne e.symm)) 0).trans hu
  refine ⟨(cell_at (Below.heap_setCell _ _ _ _ hne) 0).trans e1, ?_, World.cell?_setCell_same' _ _ _ (by rw [e2]; rfl), ?_⟩
  · rw [World.frozen?_setCell, World.frozen?_setCell]; exact hlf
  · rw [World.frozen?_setCell, World.frozen?_setCell]; exact huf

set_option maxRecDepth 100000 in
theorem smMore (s : Int) (A : Option Addr) (n c : Nat) (zs : List Int) (w : World) (h0 : 0 ≤ s) (h1 : s ≤ 4294967295) (hb : Byt w w.heap.size A n c zs) (hn : n ≤ 100000000) :
    Calls Try.prog 52 #[.int .u32 s, .slice A n c] w fun e w' => e = .returned (.int .u32 (moreV s zs)) ∧ Below w.heap.size w w' := by
  refine (callsIn_wide (n := 6)).1 ?_
  refine callsIn_of_wp_marks Try.func52 rfl trivial ?_ rfl
  simp only [Try.ntmps52, List.size_toArray, List.length_cons, List.length_nil, Nat.reduceAdd, Nat.reduceSub, Array.replicate_succ, Array.replicate_zero, List.push_toArray, List.append_toArray, List.nil_append, List.cons_append]
  obtain ⟨X, hX⟩ : ∃ X, s % 65536 % 65521 = X := ⟨_, rfl⟩
  obtain ⟨Y, hY⟩ : ∃ Y, s / 65536 % 65521 = Y := ⟨_, rfl⟩
  have HB := Lib.hid hb
  clear hb
  gi_wp2_with (refine ⟨trivial, ?_⟩; gi_at_call 63; refine (chunk_in Fence.wide 5 trivial rfl _ _ _ 5552 (by omega) _).mono ?_; rintro e w' ⟨rfl, rfl⟩)
  have HX := Lib.hid hX
  have HY := Lib.hid hY
  have x0 : 0 ≤ X := by omega
  have x1 : X < 65521 := by omega
  have y0 : 0 ≤ Y := by omega
  have y1 : Y < 65521 := by omega
  clear hX hY
  obtain ⟨b, off, hA⟩ : ∃ b off, 0 < n → A = some ⟨b, off, none⟩ ∧ b < w.heap.size ∧ ∀ i, i < n → w.cell? ⟨b, off + i, none⟩ = some (.int .u8 (zs.getD i 0)) := by
    by_cases h : 0 < n
    · obtain ⟨b, o, h1, h2, h3⟩ := HB.out.cell h
      exact ⟨b, o, fun _ => ⟨h1, h2, h3⟩⟩
    · exact ⟨0, 0, fun h' => absurd h' h⟩
  have HA := Lib.hid hA
  clear hA
  have bL := Boxed.new w 42 (.int .u32 X)
  have bU := Boxed.new (w.alloc (.cells #[.int .u32 X] 42)) 42 (.int .u32 Y)
  have bS := Boxed.new ((w.alloc (.cells #[.int .u32 X] 42)).alloc (.cells #[.int .u32 Y] 42)) 29 (.slice A n c)
  have bM := Boxed.new (((w.alloc (.cells #[.int .u32 X] 42)).alloc (.cells #[.int .u32 Y] 42)).alloc (.cells #[.slice A n c] 29)) 3 (.int .i64 5552)
  simp only [World.size_alloc] at bU bS bM
  have hB0 : Below w.heap.size w ((((w.alloc (.cells #[.int .u32 X] 42)).alloc (.cells #[.int .u32 Y] 42)).alloc (.cells #[.slice A n c] 29)).alloc (.cells #[.int .i64 5552] 3)) := ((((Below.refl _ w).alloc (Nat.le_refl _) _).alloc (by simp) _).alloc (by simp; omega) _).alloc (by simp; omega) _
  have bL' := ((bL.alloc (.cells #[.int .u32 Y] 42)).alloc (.cells #[.slice A n c] 29)).alloc (.cells #[.int .i64 5552] 3)
  have bU' := (bU.alloc (.cells #[.slice A n c] 29)).alloc (.cells #[.int .i64 5552] 3)
  have bS' := bS.alloc (.cells #[.int .i64 5552] 3)
  have BL := Lib.hid bL'
  have BU := Lib.hid bU'
  have BS := Lib.hid bS'
  have BM := Lib.hid bM
  clear bL bU bS bL' bU' bS' bM
  refine wpIn_rangeFunc_ownF (α := Nat) rfl (by omega) (gf := 64) (lb := #[.pointer (some ⟨w.heap.size + 1 + 1, 0, none⟩), .pointer (some ⟨w.heap.size + 1 + 1 + 1, 0, none⟩)]) rfl trivial (enters_of Try.func64 (by kernel_rfl) rfl)
    (chunk_stops Fence.wide 5 trivial rfl (by omega) (w.heap.size + 1 + 1) (w.heap.size + 1 + 1 + 1) w.heap.size b off n c 5552 A (fun h => (HA.out h).1) (by omega) (by omega) (by omega) HB.out.cap _ (by simp) (by simp) BS.out.cell BM.out.cell)
    KpC.trans (KpC.put (by simp; omega) (by simp) (by simp)) (Below.refl _ _) (fun _ => rfl)
    (fun pre W => (W.cell? ⟨w.heap.size, 0, none⟩ = some (.int .u32 (stepA X Y (pre.flatMap (chZ zs 5552))).1) ∧ W.frozen? ⟨w.heap.size, 0, none⟩ = false ∧
      W.cell? ⟨w.heap.size + 1, 0, none⟩ = some (.int .u32 (stepA X Y (pre.flatMap (chZ zs 5552))).2) ∧ W.frozen? ⟨w.heap.size + 1, 0, none⟩ = false) ∧ Below w.heap.size w W)
    (fun _ _ _ => False)
    (OwnFrom.and (Own.from (fun s A B row hs hg hr => ⟨cell_kept hs.1 hg hr, (frozen_kept hs.1 hg hr).trans hs.2.1, cell_kept hs.2.2.1 hg hr, (frozen_kept hs.2.2.1 hg hr).trans hs.2.2.2⟩) _) (ownFrom_below (Nat.le_refl _) (by simp; omega)))
    (fun _ _ _ _ _ hs _ _ => hs)
    ⟨⟨BL.out.cell, BL.out.frozen, BU.out.cell, BU.out.frozen⟩, hB0⟩
    (fun x => { tmps := #[.int .u32 s, .slice A n c, undef, undef, .int .u32 0, .pointer (some ⟨w.heap.size, 0, none⟩), .pointer (some ⟨w.heap.size + 1, 0, none⟩),
      .slice (some ⟨b, off + 5552 * x, none⟩) (chN n 5552 x) (chN n 5552 x), undef, undef, .int .u32 s, .int .u32 (s % 65536), .int .u32 X, .int .u32 s, .int .u32 (s / 65536), .int .u32 Y, .slice A n c,
      .func (.func 64) #[] #[.pointer (some ⟨w.heap.size + 1 + 1, 0, none⟩), .pointer (some ⟨w.heap.size + 1 + 1 + 1, 0, none⟩)], .slice (some ⟨b, off + 5552 * x, none⟩) (chN n 5552 x) (chN n 5552 x), undef, undef, undef, undef, undef, undef, undef, undef, undef, undef, undef, undef, undef, undef, undef, undef, undef, undef, undef, undef, undef, undef], defers := [] }) ?assign ?body ?done ?stop
  case assign =>
    intro l x W K hK
    dsimp only [chE]
    gi_wp2
    exact hK
  case body =>
    rintro l pre x W ⟨⟨hcL, hfL, hcU, hfU⟩, hB⟩ _
    have hz := HB.out.getD
    have hzl := HB.out.len
    have hpb := stepA_bd (pre.flatMap (chZ zs 5552)) X Y x0 x1 y0 y1
    obtain ⟨zx, hzx⟩ : ∃ zx, chZ zs 5552 x = zx := ⟨_, rfl⟩
    have hap : stepA X Y ((pre ++ [x]).flatMap (chZ zs 5552)) = stepA (stepA X Y (pre.flatMap (chZ zs 5552))).1 (stepA X Y (pre.flatMap (chZ zs 5552))).2 zx := by
      rw [List.flatMap_append, stepA_app, ← hzx]; simp
    obtain ⟨d, hd⟩ : ∃ d, chN n 5552 x = d := ⟨_, rfl⟩
    have hdl : zx.length = d := by rw [← hzx, ← hd]; simp [chZ, chN, hzl]
    have hcell : ∀ i, i < d → W.cell? ⟨b, off + 5552 * x + i, none⟩ = some (.int .u8 (zx.getD i 0)) ∧ b < w.heap.size := fun i hi => by
      unfold chN at hd
      obtain ⟨_, h2, h3⟩ := HA.out (by omega)
      refine ⟨?_, h2⟩
      rw [hB.cell (p := ⟨b, off + 5552 * x + i, none⟩) h2, Nat.add_assoc, h3 _ (by omega), ← hzx]
      simp [chZ, List.getD, show i < 5552 by omega]
    have hzr : ∀ i, 0 ≤ zx.getD i 0 ∧ zx.getD i 0 < 256 := fun i => by
      rcases Nat.lt_or_ge i zx.length with hi | hi
      · have e : zx.getD i 0 = zx[i] := by simp [List.getD, hi]
        rw [e]
        have hm : ∀ z ∈ zx, 0 ≤ z ∧ z < 256 := fun z h => by
          rw [← hzx] at h
          exact HB.out.rng _ (List.mem_of_mem_drop (List.mem_of_mem_take h))
        exact hm _ (List.getElem_mem hi)
      · have e : zx.getD i 0 = 0 := by simp [List.getD, List.getElem?_eq_none hi]
        rw [e]; omega
    have hd2 : d ≤ 5552 := by rw [← hd]; unfold chN; omega
    rw [hd]
    obtain ⟨⟨a0, b0⟩, hp⟩ : ∃ p, stepA X Y (pre.flatMap (chZ zs 5552)) = p := ⟨_, rfl⟩
    rw [hp] at hcL hcU hpb hap
    simp only at hcL hcU hpb hap
    obtain ⟨a00, a01, b00, b01⟩ := hpb
    obtain ⟨ox, hox⟩ : ∃ ox, off + 5552 * x = ox := ⟨_, rfl⟩
    rw [hox] at hcell ⊢
    obtain ⟨⟨a1, b1⟩, hq⟩ : ∃ q, stepA a0 b0 zx = q := ⟨_, rfl⟩
    rw [hq] at hap
    have HQ := Lib.hid hq
    have HAP := Lib.hid hap
    have HC := Lib.hid hcell
    have HZR := Lib.hid hzr
    have HDL := Lib.hid hdl
    have HW := Lib.hid hB
    clear hz hzl hp hox hq hap hcell hzr hdl hd hzx hB hB0 BM BL BU BS
    have e0 : a0 % 65521 = a0 := by omega
    have e1 : b0 % 65521 = b0 := by omega
    have E0 := Lib.hid e0
    have E1 := Lib.hid e1
    clear e0 e1
    gi_wp2
    gi_loopw [21] (fun i wr => ∃ (k : Nat) (a b' : Int), k ≤ d ∧ i = .int .i64 k ∧ wr.cell? ⟨w.heap.size, 0, none⟩ = some (.int .u32 a) ∧ wr.frozen? ⟨w.heap.size, 0, none⟩ = false ∧ wr.cell? ⟨w.heap.size + 1, 0, none⟩ = some (.int .u32 b') ∧ wr.frozen? ⟨w.heap.size + 1, 0, none⟩ = false ∧
      0 ≤ a ∧ a ≤ 65520 + 255 * k ∧ 0 ≤ b' ∧ b' ≤ 65520 + 65520 * k + 255 * tri k ∧ Hid (stepA (a % 65521) (b' % 65521) (zx.drop k) = (a1, b1)) ∧ Hid (KeepsOthers W wr ∧ KpC w.heap.size (w.heap.size + 1 + 1) (w.heap.size + 1 + 1 + 1) W wr)) (fun i _ => d - (intOf i).toNat)
    case atStart => exact ⟨0, a0, b0, Nat.zero_le _, rfl, hcL, hfL, hcU, hfU, a00, by omega, b00, by omega, Lib.hid (by rw [E0.out, E1.out, List.drop_zero, HQ.out]), Lib.hid ⟨KeepsOthers.refl _, KpC.refl _ _ _ _⟩⟩
    case round =>
      obtain ⟨k, a, b', hk, rfl, hl, hlf, hu, huf, a10, a11, b10, b11, hs, hkk⟩ := hrel
      clear hcL hfL hcU hfU
      by_cases hlt : k < d
      · have hz := HZR.out k
        have hc := (HC.out k hlt).1
        have hcb := (HC.out k hlt).2
        have hcw := (hkk.out.2.below.cell (p := ⟨b, ox + k, none⟩) hcb).trans hc
        have hdr : zx.drop k = zx.getD k 0 :: zx.drop (k + 1) := by
          have hl : k < zx.length := by rw [HDL.out]; exact hlt
          rw [List.drop_eq_getElem_cons hl]; simp [List.getD, hl]
        obtain ⟨z, hz'⟩ : ∃ z, zx.getD k 0 = z := ⟨_, rfl⟩
        rw [hz'] at hz hcw hdr
        obtain ⟨z0, z1⟩ := hz
        have ht : tri (k + 1) = tri k + (k + 1) := rfl
        have htl := tri_le (k := k + 1) (by omega)
        have hs' : Hid (stepA ((a + z) % 65521) ((b' + (a + z)) % 65521) (zx.drop (k + 1)) = (a1, b1)) := Lib.hid (by
          have := hs.out
          rw [hdr, stepA] at this
          rw [(stepA_mod a b' z).1, (stepA_mod a b' z).2]
          exact this)
        have HT := Lib.hid ht
        have b12 : b' + (a + z) ≤ 65520 + 65520 * ((k + 1 : Nat) : Int) + 255 * (tri (k + 1) : Int) := by omega
        have b13 : b' + (a + z) ≤ 4294967295 := by omega
        have B12 := Lib.hid b12
        clear hz' hdr hc ht b12
        gi_wp2
        go_roundw
        case rel => exact ⟨k + 1, a + z, b' + (a + z), by omega, by go_num, (put2 (by omega) hl hlf hu huf _ _).1, (put2 (by omega) hl hlf hu huf _ _).2.1, (put2 (by omega) hl hlf hu huf _ _).2.2.1, (put2 (by omega) hl hlf hu huf _ _).2.2.2, by omega, by omega, by omega, B12.out, hs', Lib.hid ⟨(hkk.out.1.trans (KeepsOthers.setCell _ _ _)).trans (KeepsOthers.setCell _ _ _), (hkk.out.2.set (Nat.le_refl _) (by omega) (by omega) _).set (by omega) (by omega) (by omega) _⟩⟩
        case measure => simp [intOf]; omega
      · obtain rfl : k = d := by omega
        have hs' : Hid (a % 65521 = a1 ∧ b' % 65521 = b1) := Lib.hid (by
          have := hs.out
          rw [List.drop_of_length_le (by rw [HDL.out]; omega)] at this
          simpa [stepA] using this)
        have htl := tri_le hd2
        gi_wp2
        have hh := put2 (by omega) hl hlf hu huf (.int .u32 (a % 65521)) (.int .u32 (b' % 65521))
        have kk := (hkk.out.2.set (b := w.heap.size) (Nat.le_refl _) (by omega) (by omega) (.int .u32 (a % 65521))).set (b := w.heap.size + 1) (by omega) (by omega) (by omega) (.int .u32 (b' % 65521))
        refine ⟨(hkk.out.1.trans (KeepsOthers.setCell _ _ _)).trans (KeepsOthers.setCell _ _ _), kk, ⟨?_, hh.2.1, ?_, hh.2.2.2⟩, HW.out.trans kk.below⟩
        · rw [hh.1, HAP.out, hs'.out.1]
        · rw [hh.2.2.1, HAP.out, hs'.out.2]
  case done =>
    rintro D ys W hD rfl ⟨⟨hcL, hfL, hcU, hfU⟩, hB⟩ hK
    have hall : (List.range ((n + 5552 - 1) / 5552)).flatMap (chZ zs 5552) = zs := by
      rw [chZ_all, List.take_of_length_le]
      rw [HB.out.len]
      omega
    rw [hall] at hcL hcU
    have hpb := stepA_bd zs X Y x0 x1 y0 y1
    have hmv : moreV s zs = (stepA X Y zs).2 * 65536 + (stepA X Y zs).1 := by unfold moreV; rw [HX.out, HY.out]
    obtain ⟨⟨p, q⟩, hp⟩ : ∃ p, stepA X Y zs = p := ⟨_, rfl⟩
    rw [hp] at hcL hcU hpb hmv
    simp only at hcL hcU hpb hmv
    obtain ⟨a00, a01, b00, b01⟩ := hpb
    have HM := Lib.hid hmv
    have HW := Lib.hid hB
    clear hall hp hmv hB hB0 BM BL BU BS
    gi_wp2
    refine ⟨by simp, .inl ⟨_, _, rfl, run_takeDeferred hK, ?_⟩⟩
    exact ⟨_, results_tmp rfl _ _ _, (by show Ending.returned (.int .u32 (65536 * q + p)) = .returned (.int .u32 (moreV s zs)); exact ret_int (by rw [HM.out]; omega)), HW.out.trans (belowK_b (w := w) (Nat.le_refl _) W D _ _ (by simp at hD; omega) hK rfl rfl)⟩
  case stop =>
    rintro D c pre W _ _ h _
    exact h.elim
set_option maxRecDepth 100000 in
theorem smAdler (A : Option Addr) (n c : Nat) (As : Nat → Option Addr) (Ns Cs : Nat → Nat) (Z : Nat → List Int) (w : World) (hp : Parts w w.heap.size A n As Ns Cs Z) (hn : n ≤ 1000000) (hNs : ∀ i, i < n → Ns i ≤ 100000000) :
    Calls Try.prog 32 #[.slice A n c] w fun e w' => e = .returned (.int .u32 (moreV 1 (catZ Z n))) ∧ Below w.heap.size w w' := by
  have HP := Lib.hid hp
  have HNS := Lib.hid hNs
  clear hp hNs
  go_enter Try.func32, Try.ntmps32
  go_wp2
  go_loopw [3, 8] (fun s i wr => ∃ (k : Nat), k ≤ n ∧ i = .int .i64 k ∧ s = .int .u32 (moreV 1 (catZ Z k)) ∧ Below w.heap.size w wr) (fun _ i _ => n - (intOf i).toNat)
  case atStart => exact ⟨0, Nat.zero_le _, rfl, rfl, Below.refl _ _⟩
  case round =>
    obtain ⟨k, hk, rfl, rfl, hbl⟩ := hrel
    by_cases hlt : k < n
    · have hp' := HP.out.below hbl (Nat.le_refl _)
      obtain ⟨b, o, rfl, _, hc⟩ := hp'.cell (by omega)
      have ck := hc k hlt
      have hv := moreV_bd 1 (catZ Z k)
      have HR := Lib.hid (smMore (moreV 1 (catZ Z k)) (As k) (Ns k) (Cs k) (Z k) wr hv.1 hv.2 ((hp'.byt k hlt).more hbl.size) (HNS.out k hlt))
      have HA := Lib.hid (moreV_app 1 (catZ Z k) (Z k))
      obtain ⟨v, hvv⟩ : ∃ v, moreV 1 (catZ Z k) = v := ⟨_, rfl⟩
      rw [hvv] at HR HA ⊢
      have HBL := Lib.hid hbl
      clear hc hvv hv hbl hp'
      go_wp2_with (go_at_call 52; refine HR.out.mono ?_; rintro e w1 ⟨rfl, hb1⟩)
      go_roundw
      case rel => exact ⟨k + 1, by omega, by go_num, int_eq HA.out, HBL.out.trans (hb1.mono HBL.out.size)⟩
      case measure => simp [intOf] <;> omega
    · obtain rfl : k = n := by omega
      go_wp2
      go_ret
      exact ⟨rfl, hbl⟩
end Go.Proofs.Ytginbilakdenmaa
