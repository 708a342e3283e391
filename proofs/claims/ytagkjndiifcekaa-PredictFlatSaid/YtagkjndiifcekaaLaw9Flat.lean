/- PredictFlat: of rows that are alike, or of one colour, the differences are noughts, behind the first. No condition on the input. -/
import Derived.Test.YtagkjndiifcekaaSh9
import Derived.Test.YtagkjndiifcekaaFl9
import Derived.Test.YtagkjndiifcekaaMd7
import Derived.StillTailTactics
import Derived.Deep.RegionHeld3
import Derived.Laws.IdiomArrays
namespace Go.Proofs.Ytagkjndiifcekaa
open Go.ChangeShapes Go.WideShapes Go.ChangeAt Go.RowKit Go.Deep
set_option linter.unusedVariables false
set_option maxRecDepth 100000

/-- The program's shape in a block of its own. -/
structure ShP (w : World) (g : Nat) (P C K : Int) : Prop where
  cell : w.heap[g]? = some (.cells #[.int .i64 P, .int .i64 C, .int .i64 K] 28 (0, 0))
section
variable {w w' : World} {g : Nat} {P C K : Int}
theorem ShP.c0 (h : ShP w g P C K) : w.cell? ⟨g, 0, none⟩ = some (.int .i64 P) := by rw [cell_of_row w g 0 _ _ (0, 0) h.cell]; rfl
theorem ShP.c1 (h : ShP w g P C K) : w.cell? ⟨g, 1, none⟩ = some (.int .i64 C) := by rw [cell_of_row w g 1 _ _ (0, 0) h.cell]; rfl
theorem ShP.c2 (h : ShP w g P C K) : w.cell? ⟨g, 2, none⟩ = some (.int .i64 K) := by rw [cell_of_row w g 2 _ _ (0, 0) h.cell]; rfl
theorem ShP.below {B : Nat} (h : ShP w g P C K) (hb : Below B w w') (hB : g < B) : ShP w' g P C K := ⟨(hb.block g hB).trans h.cell⟩
theorem ShP.new (w : World) (P C K : Int) : ShP (w.alloc (.cells #[.int .i64 P, .int .i64 C, .int .i64 K] 28)) w.heap.size P C K := ⟨heap_alloc_new w _⟩
end
theorem fill_set (cs : List Int) (n cc M i : Nat) (h : i < M) : (flatZ cs n cc i ++ List.replicate (M - i) 0).set i (cs.getD (i % n % cc) 0) = flatZ cs n cc (i + 1) ++ List.replicate (M - (i + 1)) 0 := by
  have hl := flatZ_len cs n cc i
  rw [List.set_append_right _ _ (by omega), hl, Nat.sub_self, show M - i = (M - (i + 1)) + 1 by omega, List.replicate_succ, List.set_cons_zero, flatZ_snoc, List.append_assoc]
  rfl
theorem flatZ_rng (cs : List Int) (n cc m : Nat) (h : ∀ z ∈ cs, 0 ≤ z ∧ z < 256) : ∀ z ∈ flatZ cs n cc m, 0 ≤ z ∧ z < 256 := fun z hz => by
  obtain ⟨i, _, rfl⟩ := List.mem_map.1 hz
  exact getD_rng cs h _
theorem fill_rng (cs : List Int) (n cc M i : Nat) (h : ∀ z ∈ cs, 0 ≤ z ∧ z < 256) : ∀ z ∈ flatZ cs n cc i ++ List.replicate (M - i) 0, 0 ≤ z ∧ z < 256 := fun z hz => by
  rcases List.mem_append.1 hz with hz | hz
  · exact flatZ_rng cs n cc i h z hz
  · rw [List.eq_of_mem_replicate hz]; omega
set_option maxHeartbeats 8000000 in
theorem flat_walk (a0 a1 a2 c0 c1 c2 c3 : Int) (w : World) (ha0 : 0 ≤ a0 ∧ a0 ≤ 255) (ha1 : 0 ≤ a1 ∧ a1 ≤ 255) (ha2 : 0 ≤ a2 ∧ a2 ≤ 255) (hc0 : 0 ≤ c0 ∧ c0 ≤ 255) (hc1 : 0 ≤ c1 ∧ c1 ≤ 255) (hc2 : 0 ≤ c2 ∧ c2 ≤ 255) (hc3 : 0 ≤ c3 ∧ c3 ≤ 255) :
    Calls Try.prog 7 #[.agg #[.int .u8 a0, .int .u8 a1, .int .u8 a2], .agg #[.int .u8 c0, .int .u8 c1, .int .u8 c2, .int .u8 c3]] w fun e w' => e = .returned (.bool true) ∧ Below w.heap.size w w' := by
  have hb1 := (Below.refl w.heap.size w).alloc (Nat.le_refl _) (.cells #[.int .u8 a0, .int .u8 a1, .int .u8 a2] 39)
  have hn1 := heap_alloc_new w (.cells #[.int .u8 a0, .int .u8 a1, .int .u8 a2] 39)
  obtain ⟨W1, hW1⟩ : ∃ W1, w.alloc (.cells #[.int .u8 a0, .int .u8 a1, .int .u8 a2] 39) = W1 := ⟨_, rfl⟩
  have hs1 : W1.heap.size = w.heap.size + 1 := by rw [← hW1]; simp
  rw [hW1] at hb1 hn1
  have hb2 := hb1.alloc (by omega) (.cells #[.int .u8 c0, .int .u8 c1, .int .u8 c2, .int .u8 c3] 40)
  have hn2 := heap_alloc_new W1 (.cells #[.int .u8 c0, .int .u8 c1, .int .u8 c2, .int .u8 c3] 40)
  have hn1' := (((Below.refl W1.heap.size W1).alloc (Nat.le_refl _) (.cells #[.int .u8 c0, .int .u8 c1, .int .u8 c2, .int .u8 c3] 40)).block w.heap.size (by omega)).trans hn1
  obtain ⟨W2, hW2⟩ : ∃ W2, W1.alloc (.cells #[.int .u8 c0, .int .u8 c1, .int .u8 c2, .int .u8 c3] 40) = W2 := ⟨_, rfl⟩
  have hs2 : W2.heap.size = w.heap.size + 2 := by rw [← hW2]; simp [hs1]
  rw [hW2] at hb2 hn2 hn1'
  have HB2 := Lib.hid hb2
  have HAR : Hid (∀ W, Below W2.heap.size W2 W → W.heap[w.heap.size]? = some (.cells #[.int .u8 a0, .int .u8 a1, .int .u8 a2] 39 (0, 0)) ∧ W.heap[W1.heap.size]? = some (.cells #[.int .u8 c0, .int .u8 c1, .int .u8 c2, .int .u8 c3] 40 (0, 0))) := Lib.hid fun W hW => ⟨(hW.block _ (by omega)).trans hn1', (hW.block _ (by omega)).trans hn2⟩
  have HS2 := Lib.hid hs2
  have HAW := Lib.hid (awake_any W2)
  have e0 : a0.tmod 4 = a0 % 4 := Int.tmod_eq_emod_of_nonneg ha0.1
  have e1 : a1.tmod 50 = a1 % 50 := Int.tmod_eq_emod_of_nonneg ha1.1
  have e2 : a2.tmod 9 = a2 % 9 := Int.tmod_eq_emod_of_nonneg ha2.1
  obtain ⟨cc, hcc⟩ : ∃ cc : Nat, 1 + a0 % 4 = cc := ⟨(1 + a0 % 4).toNat, by omega⟩
  obtain ⟨kk, hkk⟩ : ∃ kk : Nat, 1 + a1 % 50 = kk := ⟨(1 + a1 % 50).toNat, by omega⟩
  obtain ⟨rr, hrr⟩ : ∃ rr : Nat, 1 + a2 % 9 = rr := ⟨(1 + a2 % 9).toNat, by omega⟩
  have hcc4 : 1 ≤ cc ∧ cc ≤ 4 := by omega
  have hkk50 : 1 ≤ kk ∧ kk ≤ 50 := by omega
  have hrr9 : 1 ≤ rr ∧ rr ≤ 9 := by omega
  have w0 : IntKind.i64.wrap a0 = a0 := IntWalk.i64_in _ (by omega)
  have w1 : IntKind.i64.wrap a1 = a1 := IntWalk.i64_in _ (by omega)
  have w2 : IntKind.i64.wrap a2 = a2 := IntWalk.i64_in _ (by omega)
  have w3 : IntKind.i64.wrap (1 + a0 % 4) = cc := by rw [hcc]; exact IntWalk.i64_in _ (by omega)
  have w4 : IntKind.i64.wrap (1 + a1 % 50) = kk := by rw [hkk]; exact IntWalk.i64_in _ (by omega)
  have w5 : IntKind.i64.wrap (1 + a2 % 9) = rr := by rw [hrr]; exact IntWalk.i64_in _ (by omega)
  obtain ⟨nn, hnn⟩ : ∃ nn, cc * kk = nn := ⟨_, rfl⟩
  have hnb : 1 ≤ nn ∧ nn ≤ 200 := by
    rw [← hnn]
    exact ⟨Nat.mul_pos (by omega) (by omega), Nat.mul_le_mul hcc4.2 hkk50.2⟩
  obtain ⟨M, hM⟩ : ∃ M, nn * rr = M := ⟨_, rfl⟩
  have hMb : M ≤ 1800 := by
    rw [← hM]
    exact Nat.mul_le_mul hnb.2 hrr9.2
  have eNN : (cc : Int) * (kk : Int) = nn := by rw [← hnn]; simp
  have wNN : IntKind.i64.wrap (nn : Int) = nn := IntWalk.i64_in _ (by omega)
  have eM : (nn : Int) * (rr : Int) = M := by rw [← hM]; simp
  have wM : IntKind.i64.wrap (M : Int) = M := IntWalk.i64_in _ (by omega)
  have HMM := Lib.hid hM
  have HNN := Lib.hid hnn
  clear hb1 hn1 hs1 hb2 hn2 hn1' hs2 hM hnn
  go_enter Try.func7, Try.ntmps7
  go_upto_region 3 with (go_at_call 8; refine HAW.out.mono ?_; (rintro r w9 ⟨rfl, hb0⟩); have HC := Lib.hid hb0; obtain ⟨q1, q2⟩ := HAR.out _ hb0; have m0 : w9.cell? ⟨w.heap.size, 0, none⟩ = some (.int .u8 a0) := cell_of_row w9 w.heap.size 0 _ _ (0, 0) q1; have m1 : w9.cell? ⟨w.heap.size, 1, none⟩ = some (.int .u8 a1) := cell_of_row w9 w.heap.size 1 _ _ (0, 0) q1; have m2 : w9.cell? ⟨w.heap.size, 2, none⟩ = some (.int .u8 a2) := cell_of_row w9 w.heap.size 2 _ _ (0, 0) q1; clear hb0 q1 q2)
  go_upto_region 4 with fail
  have HA4 := Lib.hid (HC.out.alloc HC.out.size (.cells #[.int .i64 12, .int .i64 cc, .int .i64 kk] 28))
  have hsh := ShP.new w9 12 cc kk
  obtain ⟨g5, hg5⟩ : ∃ g, w9.heap.size = g := ⟨_, rfl⟩
  have hs4 : (w9.alloc (.cells #[.int .i64 12, .int .i64 cc, .int .i64 kk] 28)).heap.size = g5 + 1 := by rw [← hg5]; simp
  have HG5 : Hid (W2.heap.size ≤ g5) := Lib.hid (by rw [← hg5]; exact HC.out.size)
  obtain ⟨W4, hW4⟩ : ∃ W4, w9.alloc (.cells #[.int .i64 12, .int .i64 cc, .int .i64 kk] 28) = W4 := ⟨_, rfl⟩
  rw [hW4] at HA4 hsh hs4
  rw [hg5] at hsh
  rw [hg5, hW4]
  clear m0 m1 m2 hW4 hg5
  have k1 := hsh.c1
  have k2 := hsh.c2
  go_upto_region 5 with fail
  have HS5 : Hid (ShP (W4.alloc (.cells #[.int .i64 11, .int .i64 cc, .int .i64 kk] 28)) g5 12 cc kk ∧ ShP (W4.alloc (.cells #[.int .i64 11, .int .i64 cc, .int .i64 kk] 28)) (g5 + 1) 11 cc kk) := Lib.hid ⟨hsh.below ((Below.refl W4.heap.size W4).alloc (Nat.le_refl _) _) (by omega), by have := ShP.new W4 11 cc kk; rw [hs4] at this; exact this⟩
  have HA5 := Lib.hid (HA4.out.alloc HA4.out.size (.cells #[.int .i64 11, .int .i64 cc, .int .i64 kk] 28))
  have hs5 : (W4.alloc (.cells #[.int .i64 11, .int .i64 cc, .int .i64 kk] 28)).heap.size = g5 + 2 := by simp [hs4]
  obtain ⟨W5, hW5⟩ : ∃ W5, W4.alloc (.cells #[.int .i64 11, .int .i64 cc, .int .i64 kk] 28) = W5 := ⟨_, rfl⟩
  rw [hW5] at HS5 HA5 hs5
  (try rw [hW5])
  (try rw [hs4])
  clear hW5 hs4 hsh k1 k2
  have HSZ5 := Lib.hid hs5
  have k1 := HS5.out.1.c1
  have k2 := HS5.out.1.c2
  have m2 : W5.cell? ⟨w.heap.size, 2, none⟩ = some (.int .u8 a2) := cell_of_row W5 w.heap.size 2 _ _ (0, 0) (HAR.out _ HA5.out).1
  clear hs5
  have hmk := fun W => make_bytes M M W (Nat.le_refl _) (by omega)
  go_upto_region 8 with fail
  have hA6 := (Below.refl W5.heap.size W5).alloc (Nat.le_refl _) (.cells (u8s (List.replicate M 0)).toArray 5)
  have hr6 := heap_alloc_new W5 (.cells (u8s (List.replicate M 0)).toArray 5)
  obtain ⟨g, hg⟩ : ∃ g, W5.heap.size = g := ⟨_, rfl⟩
  obtain ⟨W6, hW6⟩ : ∃ W6, W5.alloc (.cells (u8s (List.replicate M 0)).toArray 5) = W6 := ⟨_, rfl⟩
  rw [hW6] at hA6 hr6
  rw [hg] at hr6
  (try rw [hg])
  (try rw [hW6])
  have HG := Lib.hid hg
  have HA6 := Lib.hid hA6
  have HR6 := Lib.hid hr6
  clear hg hW6 hA6 hr6 k1 k2 m2 hmk
  obtain ⟨cs, hcs⟩ : ∃ cs : List Int, [c0, c1, c2, c3] = cs := ⟨_, rfl⟩
  have HCSR : Hid (∀ z ∈ cs, 0 ≤ z ∧ z < 256) := Lib.hid fun z hz => by
    rw [← hcs] at hz
    simp at hz
    omega
  have HCC : Hid (∀ W, Below W5.heap.size W5 W → ∀ j, j < 4 → W.cell? ⟨W1.heap.size, j, none⟩ = some (.int .u8 (cs.getD j 0))) := Lib.hid fun W hW j hj => by
    have h1 := (HAR.out W5 HA5.out).2
    have h2 := (hW.block W1.heap.size (row_lt W5 _ _ h1)).trans h1
    rw [cell_of_row W W1.heap.size j _ _ (0, 0) h2, ← hcs]
    obtain rfl | rfl | rfl | rfl : j = 0 ∨ j = 1 ∨ j = 2 ∨ j = 3 := by omega
    all_goals rfl
  have HSH : Hid (∀ W, Below W5.heap.size W5 W → ShP W g5 12 cc kk ∧ ShP W (g5 + 1) 11 cc kk) := Lib.hid fun W hW => ⟨HS5.out.1.below hW (by have := HSZ5.out; omega), HS5.out.2.below hW (by have := HSZ5.out; omega)⟩
  clear hcs
  have hMi : (M : Int) ≤ 1800 := by omega
  go_wp2_with fail
  go_loopw [10] (fun iv wr => ∃ (i : Nat), i ≤ M ∧ iv = .int .i64 i ∧ Hid (wr.heap[g]? = some (.cells (u8s (flatZ cs nn cc i ++ List.replicate (M - i) 0)).toArray 5 (0, 0))) ∧ Hid (Below W5.heap.size W5 wr)) (fun iv _ => M - (intOf iv).toNat)
  case atStart => exact ⟨0, Nat.zero_le _, rfl, Lib.hid (by rw [show flatZ cs nn cc 0 = [] from rfl, List.nil_append, Nat.sub_zero]; exact HR6.out), HA6⟩
  case round =>
    obtain ⟨i, hi, rfl, HR, HBE⟩ := hrel
    by_cases hlt : i < M
    · obtain ⟨p1, hp1⟩ : ∃ p1, i % nn = p1 := ⟨_, rfl⟩
      obtain ⟨j, hj⟩ : ∃ j, p1 % cc = j := ⟨_, rfl⟩
      have hj4 : j < 4 := by have := Nat.mod_lt p1 (show 0 < cc by omega); omega
      have ck := HCC.out wr HBE.out j hj4
      have s1 := (HSH.out wr HBE.out).1.c1
      have hfr := own_fr wr g i _ HR.out
      have hgd := getD_rng cs HCSR.out j
      have hset := own_set wr g i _ (cs.getD j 0) HR.out
      have hfs := fill_set cs nn cc M i hlt
      rw [hp1, hj] at hfs
      rw [hfs] at hset
      have hXl : (flatZ cs nn cc i ++ List.replicate (M - i) 0).length = M := by rw [List.length_append, flatZ_len, List.length_replicate]; omega
      obtain ⟨_, _, e, _, hc⟩ := (own_byt wr g M _ HR.out hXl (fill_rng cs nn cc M i HCSR.out)).cell (by omega)
      injection e with e
      injection e with e1 e2
      subst e1 e2
      have ki := hc i hlt
      rw [Nat.zero_add] at ki
      obtain ⟨z0, hz0⟩ : ∃ z0, (flatZ cs nn cc i ++ List.replicate (M - i) 0).getD i 0 = z0 := ⟨_, rfl⟩
      rw [hz0] at ki
      obtain ⟨x, hx⟩ : ∃ x, cs.getD j 0 = x := ⟨_, rfl⟩
      rw [hx] at ck hset hgd
      have em1 : (i : Int).tmod nn = p1 := by rw [Int.tmod_eq_emod_of_nonneg (by omega)]; omega
      have em2 : (i : Int) % nn = p1 := by omega
      have em3 : (p1 : Int).tmod cc = j := by rw [Int.tmod_eq_emod_of_nonneg (by omega)]; omega
      have em4 : (p1 : Int) % cc = j := by omega
      have hn1 : ¬ (nn : Int) = 0 := by omega
      have hn2 : ((nn : Int) == 0) = false := beq_eq_false_iff_ne.2 hn1
      have hn3 : ¬ (nn : Int) = -1 := by omega
      have hc1 : ¬ (cc : Int) = 0 := by omega
      have hc2 : ((cc : Int) == 0) = false := beq_eq_false_iff_ne.2 hc1
      have hc3 : ¬ (cc : Int) = -1 := by omega
      have wp1 : IntKind.i64.wrap (p1 : Int) = p1 := IntWalk.i64_in _ (by have := Nat.mod_le i nn; omega)
      have wj : IntKind.i64.wrap (j : Int) = j := IntWalk.i64_in _ (by omega)
      have hli : (i : Int) < M := by omega
      have hji : (j : Int) < 4 := by omega
      have HSET := Lib.hid hset
      have HGW : Hid (W5.heap.size ≤ g) := Lib.hid (by rw [HG.out]; exact Nat.le_refl _)
      clear hset hfs hp1 hj hx hz0 hc hXl hgd
      go_upto_region 11 with fail
      go_region
      go_wp2_with fail
      go_roundw
      case rel => exact ⟨i + 1, hlt, by go_num, Lib.hid HSET.out, Lib.hid (show Below W5.heap.size W5 (World.drew _) from (HBE.out.trans ((Only.refl g wr).set_ i _ |>.belowB HGW.out (Nat.le_of_lt (row_lt wr g _ HR.out)))).drew)⟩
      case measure => simp [intOf]; omega
    · obtain rfl : M = i := by omega
      have hr := HR.out
      rw [Nat.sub_self, List.replicate_zero, List.append_nil] at hr
      obtain ⟨Z, hZ⟩ : ∃ Z, flatZ cs nn cc M = Z := ⟨_, rfl⟩
      have hZl : Z.length = M := by rw [← hZ]; exact flatZ_len _ _ _ _
      have hZr : ∀ z ∈ Z, 0 ≤ z ∧ z < 256 := by rw [← hZ]; exact flatZ_rng cs nn cc M HCSR.out
      have hZg : ∀ j, j < M → Z.getD j 0 = cs.getD (j % nn % cc) 0 := fun j hj => by rw [← hZ]; exact flatZ_get _ _ _ _ _ hj
      have hU := fun i j hi hj => flat_up cs HCSR.out nn cc rr (by omega) i j hi hj
      have hV := fun i j hi hj => flat_left cs HCSR.out nn cc rr (by omega) (by omega) i j hi hj
      have hUl := flat_len 2 cs nn cc rr (by omega)
      have hVl := flat_len 1 cs nn cc rr (by omega)
      rw [HMM.out, hZ] at hU hV hUl hVl
      rw [hZ] at hr
      have hCK : ((cc : Int) * (kk : Int)).toNat = nn := by rw [eNN]; rfl
      have hdo : ∀ P : Int, (P = 11 ∨ P = 12) → doZ P cc kk Z = (doF (P - 10) cc nn true Z M 0, 0) := fun P hP => by
        have hm : mayZ P cc kk = true := by
          unfold mayZ
          exact decide_eq_true (by omega)
        have ht : tagZ P = P - 10 := by unfold tagZ; rw [if_neg (by omega), if_neg (by omega)]
        have hd : decide (10 ≤ P) = true := decide_eq_true (by omega)
        rw [doZ, if_neg (by rw [hm]; decide), if_neg (by omega), hCK, if_neg (by rw [hZl, ← HMM.out, Nat.mul_mod_right]; decide), ht, hd, hZl]
        rfl
      obtain ⟨U, hUe⟩ : ∃ U, doF 2 cc nn true Z M 0 = U := ⟨_, rfl⟩
      obtain ⟨V, hVe⟩ : ∃ V, doF 1 cc nn true Z M 0 = V := ⟨_, rfl⟩
      have hd12 := hdo 12 (.inr rfl)
      have hd11 := hdo 11 (.inl rfl)
      rw [show (12 : Int) - 10 = 2 from rfl, hUe] at hd12
      rw [show (11 : Int) - 10 = 1 from rfl, hVe] at hd11
      rw [hUe] at hU hUl
      rw [hVe] at hV hVl
      obtain ⟨L, hL⟩ : ∃ L, (nn + 1) * rr = L := ⟨_, rfl⟩
      rw [hL] at hUl hVl
      have hLb : L ≤ 1809 := by
        rw [← hL]
        exact Nat.mul_le_mul (show nn + 1 ≤ 201 by omega) hrr9.2
      have eN1 : (nn : Int) + 1 = ((nn + 1 : Nat) : Int) := by omega
      have wN1 : IntKind.i64.wrap ((nn : Int) + 1) = (nn : Int) + 1 := IntWalk.i64_in _ (by omega)
      have eL : ((nn : Int) + 1) * (rr : Int) = L := by rw [eN1, ← Int.natCast_mul, hL]
      have wL : IntKind.i64.wrap (L : Int) = L := IntWalk.i64_in _ (by omega)
      have hby := own_byt wr g M Z hr hZl hZr
      have HBY := Lib.hid (fun W (hW : Below wr.heap.size wr W) => (hby.below hW (Nat.le_refl _)).more hW.size)
      have HUL := Lib.hid hUl
      have HVL := Lib.hid hVl
      have HEN := Lib.hid (fun W (hW : Byt W W.heap.size (some ⟨g, 0, none⟩) M M Z) => pEncode 12 cc kk (some ⟨g, 0, none⟩) M M Z W hW (by omega) (U, 0) hd12)
      have HEM := Lib.hid (fun W (hW : Byt W W.heap.size (some ⟨g, 0, none⟩) M M Z) => pEncode 11 cc kk (some ⟨g, 0, none⟩) M M Z W hW (by omega) (V, 0) hd11)
      have HD := Lib.hid (Below.refl wr.heap.size wr)
      have HU := Lib.hid hU
      have HV := Lib.hid hV
      have HZG := Lib.hid hZg
      have HL := Lib.hid hL
      have s1 := (HSH.out wr HBE.out).1
      have p0 := s1.c0
      have p1 := s1.c1
      have p2 := s1.c2
      have hli : ¬ (M : Int) < M := by omega
      clear eN1 hr hZ hZl hZr hZg hU hV hUl hVl hCK hdo hUe hVe hd12 hd11 hL hby s1 hlt
      go_upto_region 13 with (go_at_call 10; refine (HEN.out _ (HBY.out _ HD.out)).mono ?_; intro r w6 h6; obtain ⟨A6, c6, rfl, hy6, hb6⟩ := h6.at9 HUL.out; clear h6; have HY6 := Lib.hid (fun W (hW : Below w6.heap.size w6 W) => (hy6.below hW (Nat.le_refl _)).more hW.size); have HD := Lib.hid (HD.out.trans (hb6.mono HD.out.size)); have hs := (HSH.out _ (HBE.out.trans (HD.out.mono HBE.out.size))).2; have k0 := hs.c0; have k1 := hs.c1; have k2 := hs.c2; clear hy6 hb6 hs)
      clear p0 p1 p2
      go_upto_region 16 with (go_at_call 10; refine (HEM.out _ (HBY.out _ HD.out)).mono ?_; intro r w7 h7; obtain ⟨A7, c7, rfl, hy7, hb7⟩ := h7.at9 HVL.out; clear h7; have HY7 := Lib.hid hy7; have HY67 := Lib.hid (HY6.out _ hb7); have HD := Lib.hid (HD.out.trans (hb7.mono HD.out.size)); clear hy7 hb7)
      go_wp2_with fail
      clear k0 k1 k2
      have HCL : Hid (∀ (A2 : Option Addr) (c2 : Nat) (X : List Int), Byt w7 w7.heap.size A2 L c2 X → 0 < L → ∃ b o, A2 = some ⟨b, o, none⟩ ∧ ∀ i, i < L → w7.cell? ⟨b, o + i, none⟩ = some (.int .u8 (X.getD i 0))) := Lib.hid fun A2 c2 X hX h0 => by
        obtain ⟨b, o, e, _, hc⟩ := hX.cell h0
        exact ⟨b, o, e, hc⟩
      have hL0 : 0 < L := by
        rw [← HL.out]; exact Nat.mul_pos (by omega) (by omega)
      obtain ⟨b6, o6, e6, hx6⟩ := HCL.out A6 c6 U HY67.out hL0
      obtain ⟨b7, o7, e7, hx7⟩ := HCL.out A7 c7 V HY7.out hL0
      subst e6 e7
      have HX6 := Lib.hid hx6
      have HX7 := Lib.hid hx7
      have hbyZ := HBY.out w7 HD.out
      have HZC : Hid (∀ j, j < M → w7.cell? ⟨g, j, none⟩ = some (.int .u8 (Z.getD j 0))) := Lib.hid fun j hj => by
        obtain ⟨_, _, e, _, hc⟩ := hbyZ.cell (by omega)
        injection e with e
        injection e with e1 e2
        subst e1 e2
        have := hc j hj
        rwa [Nat.zero_add] at this
      have HC1 : Hid (w7.cell? ⟨g5, 1, none⟩ = some (.int .i64 cc)) := Lib.hid (HSH.out _ (HBE.out.trans (HD.out.mono HBE.out.size))).1.c1
      clear hx6 hx7 hbyZ hL0
      go_loopw [15, 16, 17, 18] (fun iv _ _ _ wk => ∃ (i q : Nat), i ≤ rr ∧ iv = .int .i64 i ∧ wk = w7.drewN q) (fun iv _ _ _ _ => rr - (intOf iv).toNat)
      case atStart => exact ⟨0, 0, Nat.zero_le _, rfl, rfl⟩
      case round =>
        obtain ⟨i, q, hi, rfl, rfl⟩ := hrel
        by_cases hir : i < rr
        · have hiri : (i : Int) < rr := by omega
          go_wp2_with fail
          go_loopw [16, 17, 18] (fun jv _ _ wk => ∃ (j q : Nat), j ≤ nn ∧ jv = .int .i64 j ∧ wk = w7.drewN q) (fun jv _ _ _ => nn - (intOf jv).toNat)
          case atStart => exact ⟨0, q, Nat.zero_le _, rfl, rfl⟩
          case round =>
            obtain ⟨j, q2, hj, rfl, rfl⟩ := hrel
            by_cases hjn : j < nn
            · have hju := HU.out i j hir hjn
              have hjv := HV.out i j hir hjn
              have hD : i * (nn + 1) + 1 + j < L := by
                have h1 : (nn + 1) * (i + 1) ≤ (nn + 1) * rr := Nat.mul_le_mul_left _ hir
                rw [HL.out, Nat.mul_succ, Nat.mul_comm] at h1
                omega
              have hjM : j < M := by
                have h1 : nn * 1 ≤ nn * rr := Nat.mul_le_mul_left _ hrr9.1
                rw [HMM.out] at h1
                omega
              have x6 := HX6.out _ hD
              have x7 := HX7.out _ hD
              have xz := HZC.out j hjM
              rw [hju] at x6
              rw [hjv] at x7
              rw [HZG.out j hjM, Nat.mod_eq_of_lt hjn] at xz
              obtain ⟨B, hB⟩ : ∃ B, cs.getD (j % cc) 0 = B := ⟨_, rfl⟩
              rw [hB] at x6 x7 xz
              obtain ⟨E, hE⟩ : ∃ E, i * (nn + 1) = E := ⟨_, rfl⟩
              have eE : (i : Int) * ((nn : Int) + 1) = E := by rw [← hE]; simp
              rw [hE] at x6 x7 hD
              obtain ⟨E1, hE1⟩ : ∃ E1, E + 1 = E1 := ⟨_, rfl⟩
              rw [hE1] at x6 x7 hD
              obtain ⟨D, hDe⟩ : ∃ D, E1 + j = D := ⟨_, rfl⟩
              rw [hDe] at x6 x7 hD
              have eE1 : (E : Int) + 1 = E1 := by omega
              have eD : (E1 : Int) + j = D := by omega
              have wE : IntKind.i64.wrap (E : Int) = E := IntWalk.i64_in _ (by omega)
              have wE1 : IntKind.i64.wrap (E1 : Int) = E1 := IntWalk.i64_in _ (by omega)
              have wD : IntKind.i64.wrap (D : Int) = D := IntWalk.i64_in _ (by omega)
              have hDL : (D : Int) < L := by omega
              have hjni : (j : Int) < nn := by omega
              have hjMi : (j : Int) < M := by omega
              have xc := HC1.out
              have HEE := Lib.hid hE
              have HEE1 := Lib.hid hE1
              clear hju hjv hB hE hE1 hDe
              by_cases hi0 : 0 < i
              · have i1 : (i : Int) > 0 := by omega
                have i2 : ((i : Int) == 0) = false := beq_eq_false_iff_ne.2 (by omega)
                rw [if_pos hi0] at x6
                clear hi0
                by_cases hjc : cc ≤ j
                · rw [if_pos hjc] at x7
                  have j1 : (j : Int) ≥ cc := by omega
                  have j2 : ¬ (j : Int) < cc := by omega
                  clear hjc
                  go_upto_region 22 with fail
                  go_quiet (fail)
                  go_wp2_with fail
                  go_roundw
                  case rel => exact ⟨j + 1, _, by omega, by go_num, rfl⟩
                  case measure => simp [intOf]; omega
                · rw [if_neg hjc] at x7
                  have j1 : ¬ (j : Int) ≥ cc := by omega
                  have j2 : (j : Int) < cc := by omega
                  clear hjc
                  go_upto_region 22 with fail
                  go_quiet (fail)
                  go_wp2_with fail
                  go_roundw
                  case rel => exact ⟨j + 1, _, by omega, by go_num, rfl⟩
                  case measure => simp [intOf]; omega
              · rw [if_neg hi0] at x6
                have i1 : ¬ (i : Int) > 0 := by omega
                have i2 : ((i : Int) == 0) = true := beq_iff_eq.2 (by omega)
                clear hi0
                by_cases hjc : cc ≤ j
                · rw [if_pos hjc] at x7
                  have j1 : (j : Int) ≥ cc := by omega
                  have j2 : ¬ (j : Int) < cc := by omega
                  clear hjc
                  go_upto_region 22 with fail
                  go_quiet (fail)
                  go_wp2_with fail
                  go_roundw
                  case rel => exact ⟨j + 1, _, by omega, by go_num, rfl⟩
                  case measure => simp [intOf]; omega
                · rw [if_neg hjc] at x7
                  have j1 : ¬ (j : Int) ≥ cc := by omega
                  have j2 : (j : Int) < cc := by omega
                  clear hjc
                  go_upto_region 22 with fail
                  go_quiet (fail)
                  go_wp2_with fail
                  go_roundw
                  case rel => exact ⟨j + 1, _, by omega, by go_num, rfl⟩
                  case measure => simp [intOf]; omega
            · obtain rfl : nn = j := by omega
              go_wp2_with fail
              go_roundw
              case rel => exact ⟨i + 1, q2, by omega, by go_num, rfl⟩
              case measure => simp [intOf]; omega
        · obtain rfl : rr = i := by omega
          go_wp2_with fail
          go_ret
          exact ⟨rfl, below_drewN (HB2.out.trans ((HA5.out.trans ((HBE.out.trans (HD.out.mono HBE.out.size)).mono HA5.out.size)).mono HB2.out.size)) _⟩
theorem okWide_arrN {P : Program} {W : World} {r : Reach} {b0 n : Nat} {t e : TypeId} {v : Value} (ht : P.underlying t = some (.array n e)) (h : Value.okWide P W r b0 t v) : ∃ cs, v = .agg cs ∧ cs.size = P.cellsOf t := by
  simp only [Value.okWide, ht] at h
  obtain ⟨cs, h1, h2, _⟩ := h
  exact ⟨cs, h1, h2⟩
section
variable {H : Type} {enc : TypeId × Value → H} {W : World} {base : Nat} {sp : Nat → Bool} {held : Bool}
/-- Three bytes, four bytes in an array, opened. -/
theorem open_arr3 {cs : Array Value} {d : DataW H} {p : List MemPlace} (h : DataW.Trod enc Try.prog W base sp held 39 (.agg cs) d p) (hcs : cs.size = Try.prog.cellsOf 39) :
    ∃ a b c : Int, cs = #[.int .u8 a, .int .u8 b, .int .u8 c] ∧ (0 ≤ a ∧ a ≤ 255) ∧ (0 ≤ b ∧ b ≤ 255) ∧ (0 ≤ c ∧ c ≤ 255) := by
  obtain ⟨fuel, hf⟩ := h
  have h3 : Try.prog.cellsOf 39 = 3 := by kernel_rfl
  have h1 : Try.prog.cellsOf 5 = 1 := by kernel_rfl
  rw [h3] at hcs
  have hcl : (Value.agg cs).cells.toList = cs.toList := by simp [Value.cells]
  rw [hcl] at hf
  obtain ⟨l⟩ := cs
  match l, hcs with
  | [x0, x1, x2], _ =>
    obtain ⟨y0, y1, y2, n, _, t0, t1, t2⟩ := trod_array3 Try.underlying39 h1 hf
    obtain ⟨a, e0, _, r0⟩ := DataW.trod_int Try.underlying5 t0
    obtain ⟨b, e1, _, r1⟩ := DataW.trod_int Try.underlying5 t1
    obtain ⟨c, e2, _, r2⟩ := DataW.trod_int Try.underlying5 t2
    simp at e0 e1 e2
    subst e0 e1 e2
    exact ⟨a, b, c, rfl, bounds_u8 r0, bounds_u8 r1, bounds_u8 r2⟩
theorem open_arr4 {cs : Array Value} {d : DataW H} {p : List MemPlace} (h : DataW.Trod enc Try.prog W base sp held 40 (.agg cs) d p) (hcs : cs.size = Try.prog.cellsOf 40) :
    ∃ a b c d : Int, cs = #[.int .u8 a, .int .u8 b, .int .u8 c, .int .u8 d] ∧ (0 ≤ a ∧ a ≤ 255) ∧ (0 ≤ b ∧ b ≤ 255) ∧ (0 ≤ c ∧ c ≤ 255) ∧ (0 ≤ d ∧ d ≤ 255) := by
  obtain ⟨fuel, hf⟩ := h
  have h3 : Try.prog.cellsOf 40 = 4 := by kernel_rfl
  have h1 : Try.prog.cellsOf 5 = 1 := by kernel_rfl
  rw [h3] at hcs
  have hcl : (Value.agg cs).cells.toList = cs.toList := by simp [Value.cells]
  rw [hcl] at hf
  obtain ⟨l⟩ := cs
  match l, hcs with
  | [x0, x1, x2, x3], _ =>
    obtain ⟨y0, y1, y2, y3, n, _, t0, t1, t2, t3⟩ := trod_array4 Try.underlying40 h1 hf
    obtain ⟨a, e0, _, r0⟩ := DataW.trod_int Try.underlying5 t0
    obtain ⟨b, e1, _, r1⟩ := DataW.trod_int Try.underlying5 t1
    obtain ⟨c, e2, _, r2⟩ := DataW.trod_int Try.underlying5 t2
    obtain ⟨x, e3, _, r3⟩ := DataW.trod_int Try.underlying5 t3
    simp at e0 e1 e2 e3
    subst e0 e1 e2 e3
    exact ⟨a, b, c, x, rfl, bounds_u8 r0, bounds_u8 r1, bounds_u8 r2, bounds_u8 r3⟩
end
set_option maxRecDepth 100000 in
theorem flat_lifted (os : Os) (started : os.Started) (H : Type) (enc : TypeId × Value → H) :
    ReturnsInHanded {} Try.checked os 7 .any (Rows.predictFlatSpec.pre6 enc Try.prog Try.f7 Rows.predictFlatRow.domain false) (Rows.predictFlatSpec.post enc Try.prog Try.f7 false true false false) := by
  refine returnsInHanded_of_change (C := Try.checked) own started (by kernel_rfl) Try.func7
    (ChangeSpec.witness6 (enc := enc) (C := Try.checked) false ⟨#[], #[.agg #[.int .u8 0, .int .u8 0, .int .u8 0], .agg #[.int .u8 0, .int .u8 0, .int .u8 0, .int .u8 0]], []⟩ 8 (by kernel_rfl) (by kernel_rfl) (by kernel_rfl) (by kernel_rfl)) ?_
  intro W base args ds gs before hval0 hW hcnd _
  have hval : ∀ (j : Nat) t v, Try.f7.params[j]? = some t → args[j]? = some v → Value.okWide Try.prog W .any base t v := hval0
  have hW' := hW
  obtain ⟨p, q, hA0, hV, rfl, hfz, hnd⟩ := hW
  have hA : DataW.TrodAll enc Try.prog W 0 (fun _ => true) true Try.f7.params.toList args.toList ds p := hA0
  rw [Try.params7] at hA hval
  obtain ⟨v0, vs0, d0, ds0, p0, q0, hargs, rfl, rfl, h0, r0⟩ := trodAll_cons hA
  obtain ⟨v1, vs1, d1, ds1, p1, q1, rfl, rfl, rfl, h1, r1⟩ := trodAll_cons r0
  obtain ⟨rfl, rfl, rfl⟩ := trodAll_nil r1
  obtain rfl : args = #[v0, v1] := by cases args; simp_all
  obtain ⟨rfl, rfl⟩ := trodVars_none hV
  obtain ⟨cs0, rfl, hcs0⟩ := okWide_arrN Try.underlying39 (hval 0 39 v0 rfl rfl)
  obtain ⟨a0, a1, a2, rfl, ra0, ra1, ra2⟩ := open_arr3 h0 hcs0
  have lt0 : ∀ x ∈ p0, x.block < W.heap.size := by obtain ⟨m, hm⟩ := h0; exact DataW.trod_lt m _ _ _ hm
  obtain ⟨cs1, rfl, hcs1⟩ := okWide_arrN Try.underlying40 (hval 1 40 v1 rfl rfl)
  obtain ⟨b0, b1, b2, b3, rfl, rb0, rb1, rb2, rb3⟩ := open_arr4 h1 hcs1
  have lt1 : ∀ x ∈ p1, x.block < W.heap.size := by obtain ⟨m, hm⟩ := h1; exact DataW.trod_lt m _ _ _ hm
  clear hA0 hval0
  refine (flat_walk a0 a1 a2 b0 b1 b2 b3 W ra0 ra1 ra2 rb0 rb1 rb2 rb3).mono fun e W' ⟨he, bel⟩ => ?_
  subst he
  exact ⟨_, rfl, _, _, _, [], _, [], hW', trodAll_mk1 (shut_bool Try.underlying4 _), (trodAll_cons_mk (Below.trod laidOut (by kernel_rfl) (of_decide_eq_true (by kernel_rfl)) h0 bel lt0) (trodAll_cons_mk (Below.trod laidOut (by kernel_rfl) (of_decide_eq_true (by kernel_rfl)) h1 bel lt1) trodAll_mk0)), rfl, bel.frame _, fun h => by cases h⟩

/-- PredictFlat: it answers true. -/
theorem flat_holds : Rows.PredictFlatSaid :=
  OpenClaim.holds_of_wide 7 Try.f7 rfl rfl rfl rfl rfl rfl rfl ⟨rfl, rfl, rfl, rfl, rfl⟩ rfl rfl rfl rfl rfl (by kernel_rfl) Try.func7 (by kernel_rfl)
    (of_decide_eq_true (by kernel_rfl)) (by unfold Func.isWrapper; first | (rw [if_pos (by decide +kernel)]; kernel_rfl) | (rw [if_neg (by decide +kernel)]; exact ⟨rfl, rfl⟩))
    (fun os started H enc _ => flat_lifted os started H enc)
#print axioms flat_holds

end Go.Proofs.Ytagkjndiifcekaa
