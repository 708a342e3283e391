/- Chapter 9, the project's own: what is expected at a place: left, above, beyond, half, nearest. -/
import Derived.Test.YtagkjndiifcekaaPf9
import Derived.Deep.RegionHeld3
namespace Go.Proofs.Ytagkjndiifcekaa
open Go.RowKit
set_option linter.unusedVariables false
set_option maxRecDepth 100000

/-- The rows, as a value. -/
abbrev rwV (A : Option Addr) (m cp n c : Nat) : Value := .agg #[.slice A m cp, .int .i64 n, .int .i64 c]
theorem nothingC (A : Option Addr) (m cp i n c : Nat) (w : World) :
    Calls Try.prog 28 #[rwV A m cp n c, .int .i64 i] w fun e w' => e = .returned (.int .u8 0) ∧ Below w.heap.size w w' := by
  have HB1 := Lib.hid ((Below.refl w.heap.size w).alloc (Nat.le_refl _) (.cells #[.slice A m cp, .int .i64 n, .int .i64 c] 49))
  go_enter Try.func28, Try.ntmps28
  go_wp2_with fail
  go_ret
  exact ⟨rfl, HB1.out⟩
theorem leftC (A : Option Addr) (m cp i n c : Nat) (ps : List Int) (w : World) (hb : Byt w w.heap.size A m cp ps) (hi : i < m) (hm : m ≤ 100000000) (hc : 1 ≤ c ∧ c ≤ 4) (hn : 1 ≤ n ∧ n ≤ 16384) :
    Calls Try.prog 29 #[rwV A m cp n c, .int .i64 i] w fun e w' => e = .returned (.int .u8 (leZ c n ps i)) ∧ Below w.heap.size w w' := by
  have hb1 := (Below.refl w.heap.size w).alloc (Nat.le_refl _) (.cells #[.slice A m cp, .int .i64 n, .int .i64 c] 49)
  obtain ⟨r, hr⟩ : ∃ r, i % n = r := ⟨_, rfl⟩
  have er1 : (i : Int).tmod n = r := by rw [Int.tmod_eq_emod_of_nonneg (by omega)]; omega
  have er2 : (i : Int) % n = r := by omega
  have hrn : r < n ∧ r ≤ i := by rw [← hr]; exact ⟨Nat.mod_lt _ (by omega), Nat.mod_le _ _⟩
  have wr1 : IntKind.i64.wrap (r : Int) = r := IntWalk.i64_in _ (by omega)
  have hn0 : ¬ (n : Int) = 0 := by omega
  have HLE : Hid (leZ c n ps i = if c ≤ r then ps.getD (i - c) 0 else 0) := Lib.hid (by unfold leZ; rw [hr])
  have HB1 := Lib.hid hb1
  obtain ⟨z, hz⟩ : ∃ z, leZ c n ps i = z := ⟨_, rfl⟩
  rw [hz] at HLE ⊢
  clear hz
  by_cases g1 : c ≤ r
  · obtain ⟨x1, hx1⟩ : ∃ x1, i - c = x1 := ⟨_, rfl⟩
    obtain ⟨b, o, rfl, hlt, hcell⟩ := (hb.below hb1 (Nat.le_refl _)).cell (by omega)
    have k1 := hcell x1 (by omega)
    have E1 := HLE.out
    rw [if_pos g1, hx1] at E1
    rw [← E1] at k1
    have e1 : (i : Int) - c = x1 := by omega
    have v1 : IntKind.i64.wrap (x1 : Int) = x1 := IntWalk.i64_in _ (by omega)
    have l1 : (x1 : Int) < m := by omega
    have q1 : ¬ (r : Int) < c := by omega
    clear E1 hx1 g1 HLE hcell hb hb1 hr hlt
    go_enter Try.func29, Try.ntmps29
    go_wp2_with fail
    go_quiet (fail)
    go_wp2_with fail
    go_ret
    exact ⟨rfl, below_drewN HB1.out _⟩
  · have E1 := HLE.out
    rw [if_neg g1] at E1
    subst E1
    have q1 : (r : Int) < c := by omega
    clear g1 HLE hb hb1 hr
    go_enter Try.func29, Try.ntmps29
    go_wp2_with fail
    go_quiet (fail)
    go_wp2_with fail
    go_ret
    exact ⟨rfl, below_drewN HB1.out _⟩
theorem aboveC (A : Option Addr) (m cp i n c : Nat) (ps : List Int) (w : World) (hb : Byt w w.heap.size A m cp ps) (hi : i < m) (hm : m ≤ 100000000) (hn : 1 ≤ n ∧ n ≤ 16384) :
    Calls Try.prog 30 #[rwV A m cp n c, .int .i64 i] w fun e w' => e = .returned (.int .u8 (abZ n ps i)) ∧ Below w.heap.size w w' := by
  have hb1 := (Below.refl w.heap.size w).alloc (Nat.le_refl _) (.cells #[.slice A m cp, .int .i64 n, .int .i64 c] 49)
  have HAB : Hid (abZ n ps i = if n ≤ i then ps.getD (i - n) 0 else 0) := Lib.hid rfl
  have HB1 := Lib.hid hb1
  obtain ⟨z, hz⟩ : ∃ z, abZ n ps i = z := ⟨_, rfl⟩
  rw [hz] at HAB ⊢
  clear hz
  by_cases g1 : n ≤ i
  · obtain ⟨x1, hx1⟩ : ∃ x1, i - n = x1 := ⟨_, rfl⟩
    obtain ⟨b, o, rfl, hlt, hcell⟩ := (hb.below hb1 (Nat.le_refl _)).cell (by omega)
    have k1 := hcell x1 (by omega)
    have E1 := HAB.out
    rw [if_pos g1, hx1] at E1
    rw [← E1] at k1
    have e1 : (i : Int) - n = x1 := by omega
    have v1 : IntKind.i64.wrap (x1 : Int) = x1 := IntWalk.i64_in _ (by omega)
    have l1 : (x1 : Int) < m := by omega
    have q1 : ¬ (i : Int) < n := by omega
    clear E1 hx1 g1 HAB hcell hb hb1 hlt
    go_enter Try.func30, Try.ntmps30
    go_wp2_with fail
    go_ret
    exact ⟨rfl, HB1.out⟩
  · have E1 := HAB.out
    rw [if_neg g1] at E1
    subst E1
    have q1 : (i : Int) < n := by omega
    clear g1 HAB hb hb1
    go_enter Try.func30, Try.ntmps30
    go_wp2_with fail
    go_ret
    exact ⟨rfl, HB1.out⟩
theorem beyondC (A : Option Addr) (m cp i n c : Nat) (ps : List Int) (w : World) (hb : Byt w w.heap.size A m cp ps) (hi : i < m) (hm : m ≤ 100000000) (hc : 1 ≤ c ∧ c ≤ 4) (hn : 1 ≤ n ∧ n ≤ 16384) :
    Calls Try.prog 34 #[rwV A m cp n c, .int .i64 i] w fun e w' => e = .returned (.int .u8 (beZ c n ps i)) ∧ Below w.heap.size w w' := by
  have hb1 := (Below.refl w.heap.size w).alloc (Nat.le_refl _) (.cells #[.slice A m cp, .int .i64 n, .int .i64 c] 49)
  obtain ⟨W1, hW1⟩ : ∃ W1, w.alloc (.cells #[.slice A m cp, .int .i64 n, .int .i64 c] 49) = W1 := ⟨_, rfl⟩
  have hnew : (w.alloc (.cells #[.slice A m cp, .int .i64 n, .int .i64 c] 49)).heap[w.heap.size]? = some (.cells #[.slice A m cp, .int .i64 n, .int .i64 c] 49) := heap_alloc_new w _
  rw [hW1] at hb1 hnew
  have a0 : W1.cell? ⟨w.heap.size, 0, none⟩ = some (.slice A m cp) := by rw [cell_of_row W1 w.heap.size 0 _ 49 (0, 0) hnew]; rfl
  have a1 : W1.cell? ⟨w.heap.size, 1, none⟩ = some (.int .i64 n) := by rw [cell_of_row W1 w.heap.size 1 _ 49 (0, 0) hnew]; rfl
  have a2 : W1.cell? ⟨w.heap.size, 2, none⟩ = some (.int .i64 c) := by rw [cell_of_row W1 w.heap.size 2 _ 49 (0, 0) hnew]; rfl
  have HB1 := Lib.hid hb1
  by_cases g1 : n ≤ i
  · obtain ⟨x1, hx1⟩ : ∃ x1, i - n = x1 := ⟨_, rfl⟩
    have HL := Lib.hid (leftC A m cp x1 n c ps W1 ((hb.below hb1 (Nat.le_refl _)).more hb1.size) (by omega) hm hc hn)
    have he : leZ c n ps x1 = beZ c n ps i := by
      unfold leZ beZ
      have h3 : x1 % n = i % n := by rw [← hx1]; exact (Nat.mod_eq_sub_mod g1).symm
      rw [h3]
      by_cases g2 : c ≤ i % n
      · rw [if_pos g2, if_pos ⟨g1, g2⟩, hx1]
      · rw [if_neg g2, if_neg (fun h => g2 h.2)]
    rw [he] at HL
    have e1 : (i : Int) - n = x1 := by omega
    have v1 : IntKind.i64.wrap (x1 : Int) = x1 := IntWalk.i64_in _ (by omega)
    have q1 : ¬ (i : Int) < n := by omega
    clear hx1 g1 hb hb1 hnew he
    go_enter Try.func34, Try.ntmps34
    go_wp2_with (go_at_call 29; refine HL.out.mono ?_; (rintro r w2 ⟨rfl, hb2⟩); have HB2 := Lib.hid (HB1.out.trans (hb2.mono HB1.out.size)); clear hb2)
    go_ret
    exact ⟨rfl, HB2.out⟩
  · have he : beZ c n ps i = 0 := by unfold beZ; rw [if_neg (fun h => g1 h.1)]
    rw [he]
    have q1 : (i : Int) < n := by omega
    clear g1 hb hb1 hnew he
    go_enter Try.func34, Try.ntmps34
    go_wp2_with fail
    go_ret
    exact ⟨rfl, HB1.out⟩
/-- A row's own block. -/
structure RwB (w : World) (g : Nat) (A : Option Addr) (m cp n c : Nat) : Prop where
  lt : g < w.heap.size
  c0 : w.cell? ⟨g, 0, none⟩ = some (.slice A m cp)
  c1 : w.cell? ⟨g, 1, none⟩ = some (.int .i64 n)
  c2 : w.cell? ⟨g, 2, none⟩ = some (.int .i64 c)
theorem RwB.new (w : World) (A : Option Addr) (m cp n c : Nat) : RwB (w.alloc (.cells #[.slice A m cp, .int .i64 n, .int .i64 c] 49)) w.heap.size A m cp n c := by
  have hnew := heap_alloc_new w (.cells #[.slice A m cp, .int .i64 n, .int .i64 c] 49)
  exact ⟨by simp, by rw [cell_of_row _ w.heap.size 0 _ 49 (0, 0) hnew]; rfl, by rw [cell_of_row _ w.heap.size 1 _ 49 (0, 0) hnew]; rfl, by rw [cell_of_row _ w.heap.size 2 _ 49 (0, 0) hnew]; rfl⟩
theorem RwB.below {w w' : World} {g : Nat} {A : Option Addr} {m cp n c : Nat} (h : RwB w g A m cp n c) {B : Nat} (hb : Below B w w') (hB : g < B) : RwB w' g A m cp n c :=
  ⟨Nat.lt_of_lt_of_le h.lt hb.size, (hb.cell (p := ⟨g, 0, none⟩) hB).trans h.c0, (hb.cell (p := ⟨g, 1, none⟩) hB).trans h.c1, (hb.cell (p := ⟨g, 2, none⟩) hB).trans h.c2⟩
theorem RwB.drew {w : World} {g : Nat} {A : Option Addr} {m cp n c : Nat} (h : RwB w g A m cp n c) : RwB w.drew g A m cp n c := ⟨h.lt, h.c0, h.c1, h.c2⟩
theorem apartC (a b : Int) (w : World) (ha : -100000 ≤ a ∧ a ≤ 100000) (hb : -100000 ≤ b ∧ b ≤ 100000) : Calls Try.prog 35 #[.int .i64 a, .int .i64 b] w fun e w' => e = .returned (.int .i64 (farZ b a)) ∧ w = w' := by
  have w1 : IntKind.i64.wrap (a - b) = a - b := IntWalk.i64_in _ (by omega)
  have w2 : IntKind.i64.wrap (b - a) = b - a := IntWalk.i64_in _ (by omega)
  have he : farZ b a = max (a - b) (b - a) := by unfold farZ; split <;> omega
  rw [he]
  clear he
  go_enter Try.func35, Try.ntmps35
  go_wp2_with fail
  go_ret
  exact ⟨rfl, rfl⟩
theorem halfC (A : Option Addr) (m cp i n c : Nat) (ps : List Int) (w : World) (hb : Byt w w.heap.size A m cp ps) (hi : i < m) (hm : m ≤ 100000000) (hc : 1 ≤ c ∧ c ≤ 4) (hn : 1 ≤ n ∧ n ≤ 16384) :
    Calls Try.prog 31 #[rwV A m cp n c, .int .i64 i] w fun e w' => e = .returned (.int .u8 ((leZ c n ps i + abZ n ps i) / 2)) ∧ Below w.heap.size w w' := by
  have HBY := Lib.hid (fun W (hW : Below w.heap.size w W) => (hb.below hW (Nat.le_refl _)).more hW.size)
  have HL := Lib.hid (fun W (hW : Below w.heap.size w W) => leftC A m cp i n c ps W (HBY.out W hW) hi hm hc hn)
  have HA := Lib.hid (fun W (hW : Below w.heap.size w W) => aboveC A m cp i n c ps W (HBY.out W hW) hi hm hn)
  have rl := leZ_rng c n ps hb.rng i
  have ra := abZ_rng n ps hb.rng i
  obtain ⟨x, hx⟩ : ∃ x, leZ c n ps i = x := ⟨_, rfl⟩
  obtain ⟨y, hy⟩ : ∃ y, abZ n ps i = y := ⟨_, rfl⟩
  rw [hx] at HL rl ⊢
  rw [hy] at HA ra ⊢
  obtain ⟨h, hh⟩ : ∃ h, (x + y) / 2 = h := ⟨_, rfl⟩
  have d1 : (x + y).tdiv 2 = h := by rw [Int.tdiv_eq_ediv_of_nonneg (by omega)]; exact hh
  have w1 : IntKind.i64.wrap (x + y) = x + y := IntWalk.i64_in _ (by omega)
  have w2 : IntKind.i64.wrap h = h := IntWalk.i64_in _ (by omega)
  have w3 : IntKind.u8.wrap h = h := IntWalk.u8_in _ (by omega)
  have w4 : IntKind.i64.wrap x = x := IntWalk.i64_in _ (by omega)
  have w5 : IntKind.i64.wrap y = y := IntWalk.i64_in _ (by omega)
  have HW1 := Lib.hid ((Below.refl w.heap.size w).alloc (Nat.le_refl _) (.cells #[.slice A m cp, .int .i64 n, .int .i64 c] 49))
  have HSH := Lib.hid (RwB.new w A m cp n c)
  obtain ⟨W1, hW1⟩ : ∃ W1, w.alloc (.cells #[.slice A m cp, .int .i64 n, .int .i64 c] 49) = W1 := ⟨_, rfl⟩
  have hsz : W1.heap.size = w.heap.size + 1 := by rw [← hW1]; simp
  rw [hW1] at HW1 HSH
  have HSZ := Lib.hid hsz
  have a0 := HSH.out.c0
  have a1 := HSH.out.c1
  have a2 := HSH.out.c2
  clear hsz
  have HD1 := Lib.hid HW1.out.drew
  have HDS := Lib.hid HSH.out.drew
  rw [hh]
  clear hb hx hy hh hi hm
  go_enter Try.func31, Try.ntmps31
  go_wp2_with fail
  go_region_held3 (fun w' => w'.cell? ⟨w.heap.size, 0, none⟩ = some (.slice A m cp) ∧ w'.cell? ⟨w.heap.size, 1, none⟩ = some (.int .i64 n) ∧ w'.cell? ⟨w.heap.size, 2, none⟩ = some (.int .i64 c)) (first | exact ⟨a0, a1, a2⟩ | exact ⟨b0, b1, b2⟩ | exact ⟨c0, c1, c2⟩ | go_keep)
   (first
    | (go_simp; go_at_call 29; with_reducible refine (HL.out _ HD1.out).mono ?_; (rintro r w2 ⟨rfl, hb2⟩); have HB2 := Lib.hid (HD1.out.trans (hb2.mono HD1.out.size)); have HS2 := Lib.hid (HDS.out.below hb2 HDS.out.lt); have b0 := HS2.out.c0; have b1 := HS2.out.c1; have b2 := HS2.out.c2; clear hb2)
    | (go_simp; go_at_call 30; with_reducible refine (HA.out _ HB2.out).mono ?_; (rintro r w3 ⟨rfl, hb3⟩); have HB3 := Lib.hid (HB2.out.trans (hb3.mono HB2.out.size)); have HS3 := Lib.hid (HS2.out.below hb3 HS2.out.lt); have c0 := HS3.out.c0; have c1 := HS3.out.c1; have c2 := HS3.out.c2; clear hb3))
  all_goals
    go_wp2_with fail
    go_ret
    exact ⟨rfl, HB3.out⟩
theorem paeth_alt (a b c p n1 : Int) (hp : a + b - c = p) (h1 : n1 = if farZ p b < farZ p a then b else a) : paethZ a b c = if farZ p c < farZ p n1 then c else n1 := by
  unfold paethZ
  rw [hp, h1]
  by_cases g1 : farZ p b < farZ p a
  · rw [if_pos g1, if_neg (by omega)]
    by_cases g2 : farZ p c < farZ p b
    · rw [if_pos g2, if_neg (by omega)]
    · rw [if_neg g2, if_pos (by omega)]
  · rw [if_neg g1]
    by_cases g2 : farZ p c < farZ p a
    · rw [if_pos g2, if_neg (by omega), if_neg (by omega)]
    · rw [if_neg g2, if_pos (by omega)]
theorem nearestC (A : Option Addr) (m cp i n c : Nat) (ps : List Int) (w : World) (hb : Byt w w.heap.size A m cp ps) (hi : i < m) (hm : m ≤ 100000000) (hc : 1 ≤ c ∧ c ≤ 4) (hn : 1 ≤ n ∧ n ≤ 16384) :
    Calls Try.prog 32 #[rwV A m cp n c, .int .i64 i] w fun e w' => e = .returned (.int .u8 (paethZ (leZ c n ps i) (abZ n ps i) (beZ c n ps i))) ∧ Below w.heap.size w w' := by
  have HBY := Lib.hid (fun W (hW : Below w.heap.size w W) => (hb.below hW (Nat.le_refl _)).more hW.size)
  have HL := Lib.hid (fun W (hW : Below w.heap.size w W) => leftC A m cp i n c ps W (HBY.out W hW) hi hm hc hn)
  have HA := Lib.hid (fun W (hW : Below w.heap.size w W) => aboveC A m cp i n c ps W (HBY.out W hW) hi hm hn)
  have HE := Lib.hid (fun W (hW : Below w.heap.size w W) => beyondC A m cp i n c ps W (HBY.out W hW) hi hm hc hn)
  have rx := leZ_rng c n ps hb.rng i
  have ry := abZ_rng n ps hb.rng i
  have rz := beZ_rng c n ps hb.rng i
  obtain ⟨x, hx⟩ : ∃ x, leZ c n ps i = x := ⟨_, rfl⟩
  obtain ⟨y, hy⟩ : ∃ y, abZ n ps i = y := ⟨_, rfl⟩
  obtain ⟨z, hz⟩ : ∃ z, beZ c n ps i = z := ⟨_, rfl⟩
  rw [hx] at HL rx ⊢
  rw [hy] at HA ry ⊢
  rw [hz] at HE rz ⊢
  obtain ⟨p, hp⟩ : ∃ p, x + y - z = p := ⟨_, rfl⟩
  obtain ⟨n1, hn1⟩ : ∃ n1, n1 = if farZ p y < farZ p x then y else x := ⟨_, rfl⟩
  have HR := Lib.hid (paeth_alt x y z p n1 hp hn1)
  have rn : 0 ≤ n1 ∧ n1 < 256 := by rw [hn1]; split <;> omega
  have HX := Lib.hid (fun W => apartC x p W (by omega) (by omega))
  have HY := Lib.hid (fun W => apartC y p W (by omega) (by omega))
  have HZ := Lib.hid (fun W => apartC z p W (by omega) (by omega))
  have HN := Lib.hid (fun W => apartC n1 p W (by omega) (by omega))
  have w1 : IntKind.i64.wrap (x + y) = x + y := IntWalk.i64_in _ (by omega)
  have w2 : IntKind.i64.wrap (x + y - z) = p := by rw [hp]; exact IntWalk.i64_in _ (by omega)
  have w3 : IntKind.i64.wrap x = x := IntWalk.i64_in _ (by omega)
  have w4 : IntKind.i64.wrap y = y := IntWalk.i64_in _ (by omega)
  have w5 : IntKind.i64.wrap z = z := IntWalk.i64_in _ (by omega)
  obtain ⟨X, hX⟩ : ∃ X, farZ p x = X := ⟨_, rfl⟩
  obtain ⟨Y, hY⟩ : ∃ Y, farZ p y = Y := ⟨_, rfl⟩
  obtain ⟨Z, hZ⟩ : ∃ Z, farZ p z = Z := ⟨_, rfl⟩
  obtain ⟨V, hV⟩ : ∃ V, farZ p n1 = V := ⟨_, rfl⟩
  rw [hX] at HX hn1
  rw [hY] at HY hn1
  rw [hZ] at HZ HR
  rw [hV] at HN HR
  obtain ⟨n2, hn2⟩ : ∃ n2, paethZ x y z = n2 := ⟨_, rfl⟩
  rw [hn2] at HR ⊢
  have rn2 : 0 ≤ n2 ∧ n2 < 256 := by rw [HR.out]; split <;> omega
  have w6 : IntKind.u8.wrap n2 = n2 := IntWalk.u8_in _ (by omega)
  have HN1 := Lib.hid hn1
  have ix0 : ∀ W, (Instr.index 55 (.agg #[.int .i64 y, .int .i64 z]) (.int .i64 0)).run Try.prog W = .ok (.int .i64 y) W := fun W => by kernel_rfl
  have ix1 : ∀ W, (Instr.index 55 (.agg #[.int .i64 y, .int .i64 z]) (.int .i64 1)).run Try.prog W = .ok (.int .i64 z) W := fun W => by kernel_rfl
  have HW1 := Lib.hid ((Below.refl w.heap.size w).alloc (Nat.le_refl _) (.cells #[.slice A m cp, .int .i64 n, .int .i64 c] 49))
  have HSH := Lib.hid (RwB.new w A m cp n c)
  obtain ⟨W1, hW1⟩ : ∃ W1, w.alloc (.cells #[.slice A m cp, .int .i64 n, .int .i64 c] 49) = W1 := ⟨_, rfl⟩
  have hsz : W1.heap.size = w.heap.size + 1 := by rw [← hW1]; simp
  rw [hW1] at HW1 HSH
  have HSZ := Lib.hid hsz
  have a0 := HSH.out.c0
  have a1 := HSH.out.c1
  have a2 := HSH.out.c2
  clear hsz
  have HD1 := Lib.hid HW1.out.drew
  have HDS := Lib.hid HSH.out.drew
  clear hb hx hy hz hi hm hp hX hY hZ hV hn2 hn1
  go_enter Try.func32, Try.ntmps32
  go_wp2_with fail
  go_region_held3 (fun w' => w'.cell? ⟨w.heap.size, 0, none⟩ = some (.slice A m cp) ∧ w'.cell? ⟨w.heap.size, 1, none⟩ = some (.int .i64 n) ∧ w'.cell? ⟨w.heap.size, 2, none⟩ = some (.int .i64 c)) (first | exact ⟨a0, a1, a2⟩ | exact ⟨b0, b1, b2⟩ | exact ⟨c0, c1, c2⟩ | exact ⟨d0, d1, d2⟩ | go_keep)
   (first
    | (go_simp; go_at_call 29; with_reducible refine (HL.out _ HD1.out).mono ?_; (rintro r w2 ⟨rfl, hb2⟩); have HB2 := Lib.hid (HD1.out.trans (hb2.mono HD1.out.size)); have HS2 := Lib.hid (HDS.out.below hb2 HDS.out.lt); have b0 := HS2.out.c0; have b1 := HS2.out.c1; have b2 := HS2.out.c2; clear hb2)
    | (go_simp; go_at_call 30; with_reducible refine (HA.out _ HB2.out).mono ?_; (rintro r w3 ⟨rfl, hb3⟩); have HB3 := Lib.hid (HB2.out.trans (hb3.mono HB2.out.size)); have HS3 := Lib.hid (HS2.out.below hb3 HS2.out.lt); have c0 := HS3.out.c0; have c1 := HS3.out.c1; have c2 := HS3.out.c2; clear hb3)
    | (go_simp; go_at_call 34; with_reducible refine (HE.out _ HB3.out).mono ?_; (rintro r w4 ⟨rfl, hb4⟩); have HB4 := Lib.hid (HB3.out.trans (hb4.mono HB3.out.size)); have HS4 := Lib.hid (HS3.out.below hb4 HS3.out.lt); have d0 := HS4.out.c0; have d1 := HS4.out.c1; have d2 := HS4.out.c2; clear hb4))
  go_wp2_with fail
  go_loopw [9, 11, 33] (fun nv _ iv wr => wr = w4 ∧ ((iv = .int .i64 0 ∧ nv = .int .i64 x) ∨ (iv = .int .i64 1 ∧ nv = .int .i64 n1) ∨ (iv = .int .i64 2 ∧ nv = .int .i64 n2))) (fun _ _ iv _ => 2 - (intOf iv).toNat)
  case atStart => exact ⟨rfl, .inl ⟨rfl, rfl⟩⟩
  case round =>
    obtain ⟨rfl, ⟨rfl, rfl⟩ | ⟨rfl, rfl⟩ | ⟨rfl, rfl⟩⟩ := hrel
    · have h1 := HN1.out
      by_cases g : Y < X
      · rw [if_pos g] at h1
        have HH := Lib.hid h1.symm
        clear h1
        go_wp2_with (first
          | (go_at_call 35; with_reducible refine (HY.out _).mono ?_; (rintro r w7 ⟨rfl, rfl⟩))
          | (go_at_call 35; with_reducible refine (HX.out _).mono ?_; (rintro r w7 ⟨rfl, rfl⟩)))
        go_roundw
        case rel => exact ⟨by trivial, .inr (.inl ⟨rfl, int_eq HH.out⟩)⟩
        case measure => simp [intOf]
      · rw [if_neg g] at h1
        have HH := Lib.hid h1.symm
        clear h1
        go_wp2_with (first
          | (go_at_call 35; with_reducible refine (HY.out _).mono ?_; (rintro r w7 ⟨rfl, rfl⟩))
          | (go_at_call 35; with_reducible refine (HX.out _).mono ?_; (rintro r w7 ⟨rfl, rfl⟩)))
        go_roundw
        case rel => exact ⟨by trivial, .inr (.inl ⟨rfl, int_eq HH.out⟩)⟩
        case measure => simp [intOf]
    · have h1 := HR.out
      by_cases g : Z < V
      · rw [if_pos g] at h1
        have HH := Lib.hid h1.symm
        clear h1
        go_wp2_with (first
          | (go_at_call 35; with_reducible refine (HZ.out _).mono ?_; (rintro r w7 ⟨rfl, rfl⟩))
          | (go_at_call 35; with_reducible refine (HN.out _).mono ?_; (rintro r w7 ⟨rfl, rfl⟩)))
        go_roundw
        case rel => exact ⟨by trivial, .inr (.inr ⟨rfl, int_eq HH.out⟩)⟩
        case measure => simp [intOf]
      · rw [if_neg g] at h1
        have HH := Lib.hid h1.symm
        clear h1
        go_wp2_with (first
          | (go_at_call 35; with_reducible refine (HZ.out _).mono ?_; (rintro r w7 ⟨rfl, rfl⟩))
          | (go_at_call 35; with_reducible refine (HN.out _).mono ?_; (rintro r w7 ⟨rfl, rfl⟩)))
        go_roundw
        case rel => exact ⟨by trivial, .inr (.inr ⟨rfl, int_eq HH.out⟩)⟩
        case measure => simp [intOf]
    · go_wp2_with fail
      go_ret
      exact ⟨rfl, HB4.out⟩
end Go.Proofs.Ytagkjndiifcekaa
