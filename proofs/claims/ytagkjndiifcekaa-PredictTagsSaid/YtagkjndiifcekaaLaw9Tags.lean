/- PredictTags: rows of whatever tags are undone row by row: a row behind others is what it is behind the last of them alone. No condition on the input. -/
import Derived.Test.YtagkjndiifcekaaSh9
import Derived.Test.YtagkjndiifcekaaTg9
import Derived.Test.YtagkjndiifcekaaMd7
import Derived.Test.YtagkjndiifcekaaCopy
import Derived.StillTailTactics
import Derived.Deep.RegionHeld3
import Derived.Laws.CopyOwn
import Derived.BigQuiet
namespace Go.Proofs.Ytagkjndiifcekaa
open Go.ChangeShapes Go.WideShapes Go.ChangeAt Go.RowKit Go.Deep
set_option linter.unusedVariables false
set_option maxRecDepth 100000

def padZ (Z : List Int) (m : Nat) : List Int := Z.take m ++ List.replicate (m - Z.length) 0
theorem padZ_len (Z : List Int) (m : Nat) : (padZ Z m).length = m := by
  rw [padZ, List.length_append, List.length_take, List.length_replicate]; omega
theorem padZ_rng (Z : List Int) (m : Nat) (h : ∀ z ∈ Z, 0 ≤ z ∧ z < 256) : ∀ z ∈ padZ Z m, 0 ≤ z ∧ z < 256 := fun z hz => by
  rcases List.mem_append.1 hz with hz | hz
  · exact h z (List.mem_of_mem_take hz)
  · rw [List.eq_of_mem_replicate hz]; omega
theorem padZ_splice (Z : List Int) (m : Nat) : splice (u8s (List.replicate m 0)) 0 (u8s (Z.take m)) = u8s (padZ Z m) := by
  unfold splice padZ
  rw [List.take_zero, List.nil_append, Nat.zero_add]
  have e : (u8s (Z.take m)).length = min m Z.length := by simp [u8s]
  rw [e]
  simp only [u8s, List.map_append, List.map_replicate, List.drop_replicate]
  congr 2
  omega
theorem mine_of (w : World) (g base m : Nat) (X : List Int) (h : w.heap[g]? = some (.cells (u8s X).toArray 5 (0, 0))) (hb : base ≤ g) (hr : ∀ z ∈ X, 0 ≤ z ∧ z < 256) (hl : X.length = m) (hm : m ≤ 1000000) : Mine w base (.slice (some ⟨g, 0, none⟩) m m) m X :=
  ⟨⟨by simp [hl], .inr ⟨g, m, _, rfl, hb, h, Nat.le_refl _, by unfold maxLen; omega, by simp [u8s, hl], by simp [u8s, hl, List.take_of_length_le]⟩⟩, hr⟩
theorem tags_pure (cc kk nn i : Nat) (hm : mayZ 15 cc kk = true) (hn : cc * kk = nn) (hn1 : 0 < nn) (hc : 0 < cc) (Rs : List (List Int)) (R : List Int) (hl : Rs.length = i) (hRs : ∀ r ∈ Rs, r.length = nn + 1 ∧ r.getD 0 0 ≤ 4) (hR : R.length = nn + 1 ∧ R.getD 0 0 ≤ 4) :
    ∃ Y, Y.length = nn ∧ (Rs ++ [R]).foldl (tagU cc nn) [] = Rs.foldl (tagU cc nn) [] ++ Y ∧ undZ 15 cc kk (Rs ++ [R]).flatten = (Rs.foldl (tagU cc nn) [] ++ Y, 0) ∧ (i = 0 → undZ 15 cc kk R = (Y, 0)) ∧
      (0 < i → ((Rs.foldl (tagU cc nn) []).drop (nn * (i - 1))).length = nn ∧ undZ 15 cc kk ([0] ++ (Rs.foldl (tagU cc nn) []).drop (nn * (i - 1)) ++ R) = ((Rs.foldl (tagU cc nn) []).drop (nn * (i - 1)) ++ Y, 0)) := by
  have hall : ∀ r ∈ Rs ++ [R], r.length = nn + 1 ∧ r.getD 0 0 ≤ 4 := fun r hr => by
    rcases List.mem_append.1 hr with hr | hr
    · exact hRs r hr
    · simp only [List.mem_singleton] at hr; rw [hr]; exact hR
  have hu := undZ_rows cc kk nn hm hn hn1 (Rs ++ [R]) hall
  have hpl := fold_len cc nn Rs [] hRs
  have hprg := fold_rng cc nn Rs [] (fun z h => by cases h)
  rw [List.length_nil, Nat.zero_add, hl] at hpl
  obtain ⟨PL, hPL⟩ : ∃ PL, Rs.foldl (tagU cc nn) [] = PL := ⟨_, rfl⟩
  have hfo : (Rs ++ [R]).foldl (tagU cc nn) [] = tagU cc nn PL R := by rw [List.foldl_append, hPL]; rfl
  rw [hfo] at hu ⊢
  rw [hPL] at hpl hprg ⊢
  by_cases h0 : i = 0
  · subst h0
    have hR0 : Rs = [] := List.eq_nil_of_length_eq_zero hl
    have hPL0 : PL = [] := List.eq_nil_of_length_eq_zero (by rw [hpl, Nat.mul_zero])
    subst hPL0
    obtain ⟨Y, h1, h2⟩ := rowU_keep (R.getD 0 0) cc nn (R.drop 1) []
    refine ⟨Y, by rw [h2, List.length_drop, hR.1]; rfl, h1, ?_, fun _ => ?_, fun h => absurd h (Nat.lt_irrefl _)⟩
    · rw [hu]; exact congrArg (fun t => (t, (0 : Int))) h1
    · subst hR0
      rw [List.nil_append, show [R].flatten = R by simp] at hu
      rw [hu]
      exact congrArg (fun t => (t, (0 : Int))) h1
  · have hnn : nn * i = nn * (i - 1) + nn := by
      rw [show i = (i - 1) + 1 by omega, Nat.mul_succ, Nat.add_sub_cancel]
    obtain ⟨LZ, hLZ⟩ : ∃ LZ, PL.drop (nn * (i - 1)) = LZ := ⟨_, rfl⟩
    have hll : LZ.length = nn := by rw [← hLZ, List.length_drop, hpl]; omega
    obtain ⟨Y, h1, h2, h3⟩ := tag_last cc nn PL LZ R hc hn1 hR.1 (PL.take (nn * (i - 1))) (by rw [← hLZ, List.take_append_drop]) (by rw [List.length_take, hpl, Nat.min_eq_left (by omega), Nat.mul_mod_right]) hll
    refine ⟨Y, h1, h2, by rw [hu, h2], fun h => absurd h h0, fun _ => ?_⟩
    rw [hLZ]
    refine ⟨hll, ?_⟩
    have hr2 : ∀ r ∈ [[0] ++ LZ, R], r.length = nn + 1 ∧ r.getD 0 0 ≤ 4 := fun r hr => by
      simp only [List.mem_cons, List.not_mem_nil, or_false] at hr
      rcases hr with rfl | rfl
      · exact ⟨by simp [hll], by simp⟩
      · exact hR
    have hu2 := undZ_rows cc kk nn hm hn hn1 [[0] ++ LZ, R] hr2
    have e1 : [[0] ++ LZ, R].flatten = [0] ++ LZ ++ R := by simp
    have e2 : tagU cc nn [] ([0] ++ LZ) = LZ := by
      unfold tagU
      show rowU 0 cc nn LZ [] = LZ
      rw [rowU_plain cc nn LZ [] (fun z hz => by rw [← hLZ] at hz; exact hprg z (List.mem_of_mem_drop hz)), List.nil_append]
    rw [e1, List.foldl_cons, e2, List.foldl_cons, List.foldl_nil, h3] at hu2
    exact hu2
theorem two_app (W : World) (g N1 nl cl : Nat) (AL : Option Addr) (LZ R : List Int) (hg : W.heap[g]? = some (.cells (u8s R).toArray 5 (0, 0))) (hRl : R.length = N1) (hRr : ∀ z ∈ R, 0 ≤ z ∧ z < 256) (hL : Byt W W.heap.size AL nl cl LZ) (hb : nl ≤ 1000 ∧ N1 ≤ 1000) :
    ∃ A9 n9 c9 W9, (Builtin.append_ #[23, 23] 23 #[.slice (some ⟨W.heap.size, 0, none⟩) 1 1, .slice AL nl cl]).run Try.prog (W.alloc (.cells #[.int .u8 0] 5)) = .ok (.slice A9 n9 c9) W9 ∧
      ∃ A10 c10 W10, (Builtin.append_ #[23, 23] 23 #[.slice A9 n9 c9, .slice (some ⟨g, 0, none⟩) N1 N1]).run Try.prog W9 = .ok (.slice A10 (1 + nl + N1) c10) W10 ∧ Byt W10 W10.heap.size A10 (1 + nl + N1) c10 ([0] ++ LZ ++ R) ∧ Below W.heap.size W W10 := by
  have hgl := row_lt W g _ hg
  have hb1 := (Below.refl W.heap.size W).alloc (Nat.le_refl _) (.cells #[.int .u8 0] 5)
  have hm0 : Mine (W.alloc (.cells #[.int .u8 0] 5)) W.heap.size (.slice (some ⟨W.heap.size, 0, none⟩) 1 1) 1 [0] := mine_of _ _ _ _ _ (heap_alloc_new W _) (Nat.le_refl _) (by simp) rfl (by omega)
  obtain ⟨v9, W9, hr9, hm9, hk9⟩ := hm0.appendX (hL.below hb1 (Nat.le_refl _)) 23 (by omega) hb1.size
  obtain ⟨A9, c9, hv9, _⟩ := hm9.byt
  subst hv9
  have hg9 : W9.heap[g]? = some (.cells (u8s R).toArray 5 (0, 0)) := (hk9.block g (by simp; omega) (fun e => by injection e with e; dsimp only at e; omega)).trans ((hb1.block g hgl).trans hg)
  obtain ⟨v10, W10, hr10, hm10, hk10⟩ := hm9.appendX (own_byt W9 g N1 R hg9 hRl hRr) 23 (by omega) (Nat.le_trans hb1.size hk9.size)
  obtain ⟨A10, c10, hv10, hy10⟩ := hm10.byt
  subst hv10
  exact ⟨A9, _, c9, W9, hr9, A10, c10, W10, hr10, hy10, (hb1.trans (hk9.below hb1.size (fun b hb => hm0.owned b hb))).trans (hk10.below (Nat.le_trans hb1.size hk9.size) (fun b hb => hm9.owned b hb))⟩
/-- What is kept between two rows. -/
structure TG (W7 wr : World) (cc n i : Nat) (Rs : List (List Int)) (av lv pv : Value) : Prop where
  len : Rs.length = i
  rows : ∀ r ∈ Rs, r.length = n + 1 ∧ r.getD 0 0 ≤ 4
  all : Mine wr W7.heap.size av ((n + 1) * i) Rs.flatten
  plain : Mine wr W7.heap.size pv (n * i) (Rs.foldl (tagU cc n) [])
  last : ∃ k, Mine wr W7.heap.size lv k ((Rs.foldl (tagU cc n) []).drop (n * (i - 1)))
  ol : ∀ b, av.ownBlock = some b → lv.ownBlock ≠ some b
  op : ∀ b, av.ownBlock = some b → pv.ownBlock ≠ some b
  low : Below W7.heap.size W7 wr
theorem tg_next (W7 w6 w11 w12 w13 : World) (cc nn i : Nat) (Rs : List (List Int)) (R PL Y : List Int) (Q NX LA : Nat) (A6 : Option Addr) (c6 : Nat) (vL vP : Value) (hl : Rs.length = i) (hRs : ∀ r ∈ Rs, r.length = nn + 1 ∧ r.getD 0 0 ≤ 4) (hR : R.length = nn + 1 ∧ R.getD 0 0 ≤ 4)
    (hA : Mine w6 W7.heap.size (.slice A6 LA c6) LA (Rs ++ [R]).flatten) (hF : (Rs ++ [R]).foldl (tagU cc nn) [] = PL ++ Y) (hP : PL.length = Q) (hQ : NX = Q + nn ∧ nn * i = Q) (hY : Y.length = nn) (mP : Mine w12 w11.heap.size vP NX (PL ++ Y)) (h12 : w11.heap.size ≤ w12.heap.size) (mL : Mine w13 w12.heap.size vL nn Y) (hL : Below w12.heap.size w12 w13)
    (h6 : Below w6.heap.size w6 w13) (h11 : Below w11.heap.size w11 w13) (hs : w6.heap.size ≤ w11.heap.size) (h7 : Below W7.heap.size W7 w6) : TG W7 w13 cc nn (i + 1) (Rs ++ [R]) (.slice A6 LA c6) vL vP := by
  have hall : ∀ r ∈ Rs ++ [R], r.length = nn + 1 ∧ r.getD 0 0 ≤ 4 := fun r hr => by
    rcases List.mem_append.1 hr with hr | hr
    · exact hRs r hr
    · simp only [List.mem_singleton] at hr; rw [hr]; exact hR
  have hfl := flat_len9 nn (Rs ++ [R]) hall
  rw [List.length_append, hl, List.length_singleton, hA.len] at hfl
  have hNX : NX = nn * (i + 1) := by rw [hQ.1, Nat.mul_succ, hQ.2]
  refine ⟨by rw [List.length_append, hl]; rfl, hall, by rw [← hfl]; exact hA.kept h6, ?_, ⟨nn, ?_⟩, fun b hb hc => ?_, fun b hb hc => ?_, h7.trans (h6.mono h7.size)⟩
  · rw [hF, ← hNX]
    exact (mP.kept hL).weak8 (Nat.le_trans h7.size hs)
  · rw [hF, Nat.add_sub_cancel, hQ.2, ← hP, List.drop_left]
    exact mL.weak8 (Nat.le_trans h7.size (Nat.le_trans hs h12))
  · have h1 := hA.lt b hb
    have h2 := mL.owned b hc
    omega
  · have h1 := hA.lt b hb
    have h2 := mP.owned b hc
    omega
set_option maxHeartbeats 8000000 in
theorem tags_walk (b0 b1 : Int) (A : Option Addr) (m c : Nat) (As : Nat → Option Addr) (Ns Cs : Nat → Nat) (Z : Nat → List Int) (w : World) (hb0 : 0 ≤ b0 ∧ b0 ≤ 255) (hb1 : 0 ≤ b1 ∧ b1 ≤ 255) (hp : Parts w w.heap.size A m As Ns Cs Z) (hm : m ≤ 9223372036854775807) :
    Calls Try.prog 6 #[.int .u8 b0, .int .u8 b1, .slice A m c] w fun e w' => e = .returned (.bool true) ∧ Below w.heap.size w w' := by
  have HP := Lib.hid hp
  have HAW := Lib.hid (awake_any w)
  have e0 : b0.tmod 4 = b0 % 4 := Int.tmod_eq_emod_of_nonneg hb0.1
  have e1 : b1.tmod 9 = b1 % 9 := Int.tmod_eq_emod_of_nonneg hb1.1
  obtain ⟨cc, hcc⟩ : ∃ cc : Nat, 1 + b0 % 4 = cc := ⟨(1 + b0 % 4).toNat, by omega⟩
  obtain ⟨kk, hkk⟩ : ∃ kk : Nat, 1 + b1 % 9 = kk := ⟨(1 + b1 % 9).toNat, by omega⟩
  have hcc4 : 1 ≤ cc ∧ cc ≤ 4 := by omega
  have hkk9 : 1 ≤ kk ∧ kk ≤ 9 := by omega
  have w0 : IntKind.i64.wrap b0 = b0 := IntWalk.i64_in _ (by omega)
  have w1 : IntKind.i64.wrap b1 = b1 := IntWalk.i64_in _ (by omega)
  have w3 : IntKind.i64.wrap (1 + b0 % 4) = cc := by rw [hcc]; exact IntWalk.i64_in _ (by omega)
  have w4 : IntKind.i64.wrap (1 + b1 % 9) = kk := by rw [hkk]; exact IntWalk.i64_in _ (by omega)
  obtain ⟨nn, hnn⟩ : ∃ nn, cc * kk = nn := ⟨_, rfl⟩
  have hnb : 1 ≤ nn ∧ nn ≤ 36 := by
    rw [← hnn]
    exact ⟨Nat.mul_pos (by omega) (by omega), Nat.mul_le_mul hcc4.2 hkk9.2⟩
  have eNN : (cc : Int) * (kk : Int) = nn := by rw [← hnn]; simp
  have wNN : IntKind.i64.wrap (nn : Int) = nn := IntWalk.i64_in _ (by omega)
  have HNN := Lib.hid hnn
  have HMAY : Hid (mayZ 15 cc kk = true) := Lib.hid (by unfold mayZ; exact decide_eq_true (by omega))
  clear hp hnn
  go_enter Try.func6, Try.ntmps6
  go_upto_region 3 with (go_at_call 8; refine HAW.out.mono ?_; (rintro r w9 ⟨rfl, hb9⟩); have HC := Lib.hid hb9; clear hb9)
  go_upto_region 4 with fail
  have HA4 := Lib.hid (HC.out.alloc HC.out.size (.cells #[.int .i64 15, .int .i64 cc, .int .i64 kk] 30))
  have hsh := ShB.new w9 15 cc kk
  obtain ⟨g5, hg5⟩ : ∃ g, w9.heap.size = g := ⟨_, rfl⟩
  have hs4 : (w9.alloc (.cells #[.int .i64 15, .int .i64 cc, .int .i64 kk] 30)).heap.size = g5 + 1 := by rw [← hg5]; simp
  obtain ⟨W7, hW7⟩ : ∃ W7, w9.alloc (.cells #[.int .i64 15, .int .i64 cc, .int .i64 kk] 30) = W7 := ⟨_, rfl⟩
  rw [hW7] at HA4 hsh hs4
  rw [hg5] at hsh
  (try rw [hg5])
  (try rw [hW7])
  have HSZ := Lib.hid hs4
  have HSH := Lib.hid hsh
  have k1 := hsh.c1
  have k2 := hsh.c2
  clear hW7 hg5 hs4 hsh
  by_cases hbig : 20 < m
  · have hbi : (m : Int) > 20 := by omega
    go_wp2_with fail
    go_ret
    exact ⟨rfl, HA4.out⟩
  have hbi : ¬ (m : Int) > 20 := by omega
  go_wp2_with fail
  have HPW := Lib.hid (HP.out.below HA4.out (Nat.le_refl _))
  have HSP : Hid (∀ W, Calls Try.prog 13 #[shV 15 cc kk] W fun e w' => e = .returned (shV 15 cc kk) ∧ Below W.heap.size W w') := Lib.hid (fun W => shapeC 15 cc kk W)
  have HWB : Hid (w.heap.size ≤ W7.heap.size) := Lib.hid HA4.out.size
  clear k1 k2
  go_loopw [9, 10, 11, 12, 13, 14, 15, 16, 17, 18] (fun av lv pv iv _ _ _ _ _ _ wr => ∃ (i : Nat) (a1 l1 p1 : Value) (Rs : List (List Int)), a1 = av ∧ l1 = lv ∧ p1 = pv ∧ i ≤ m ∧ iv = .int .i64 i ∧ Hid (TG W7 wr cc nn i Rs a1 l1 p1)) (fun _ _ _ iv _ _ _ _ _ _ _ => m - (intOf iv).toNat)
  case atStart => exact ⟨0, _, _, _, [], rfl, rfl, rfl, Nat.zero_le _, rfl, Lib.hid ⟨rfl, (fun r h => by cases h), Mine.nil _ _, Mine.nil _ _, ⟨0, Mine.nil _ _⟩, (fun b h => by cases h), (fun b h => by cases h), Below.refl _ _⟩⟩
  case round =>
    obtain ⟨i, av, lv, pv, Rs, rfl, rfl, rfl, hi, rfl, HT⟩ := hrel
    by_cases hlt : i < m
    · have hpr := HPW.out.below HT.out.low HWB.out
      obtain ⟨bp, op, rfl, hbpl, hcl⟩ := hpr.cell (by omega)
      have ck := hcl i hlt
      have hbi := hpr.byt i hlt
      obtain ⟨NI, hNI⟩ : ∃ NI, Ns i = NI := ⟨_, rfl⟩
      obtain ⟨CI, hCI⟩ : ∃ CI, Cs i = CI := ⟨_, rfl⟩
      obtain ⟨AI, hAI⟩ : ∃ AI, As i = AI := ⟨_, rfl⟩
      obtain ⟨ZI, hZI⟩ : ∃ ZI, Z i = ZI := ⟨_, rfl⟩
      rw [hNI, hCI, hAI] at ck
      rw [hNI, hCI, hAI, hZI] at hbi
      obtain ⟨N1, hN1⟩ : ∃ N1, nn + 1 = N1 := ⟨_, rfl⟩
      have eN1 : (nn : Int) + 1 = N1 := by omega
      have wN1 : IntKind.i64.wrap (N1 : Int) = N1 := IntWalk.i64_in _ (by omega)
      have hmk := fun W => make_bytes N1 N1 W (Nat.le_refl _) (by omega)
      have HCK := Lib.hid ck
      have HBI := Lib.hid hbi
      have hrow := heap_alloc_new wr (.cells (u8s (List.replicate N1 0)).toArray 5)
      have hlw := (Below.refl wr.heap.size wr).alloc (Nat.le_refl _) (.cells (u8s (List.replicate N1 0)).toArray 5)
      obtain ⟨g, hg⟩ : ∃ g, wr.heap.size = g := ⟨_, rfl⟩
      obtain ⟨W1, hW1⟩ : ∃ W1, wr.alloc (.cells (u8s (List.replicate N1 0)).toArray 5) = W1 := ⟨_, rfl⟩
      have hs1 : W1.heap.size = g + 1 := by rw [← hW1, ← hg]; simp
      rw [hW1] at hrow hlw
      rw [hg] at hrow
      have ck1 : W1.cell? ⟨bp, op + i, none⟩ = some (.slice AI NI CI) := (World.cell?_of_block (hlw.block bp (by have := HT.out.low.size; have := HWB.out; omega))).trans ck
      have HCS : Hid ((u8s (ZI.take N1)).length = Nat.min NI N1) := Lib.hid (by simp only [u8s, List.length_map, List.length_take, hbi.len, Nat.min_def]; split <;> split <;> omega)
      have HSRC : Hid (0 < (u8s (ZI.take N1)).length → some (⟨g, 0, none⟩ : Addr) = some ⟨g, 0, none⟩ ∧ ∃ ad, AI = some ad ∧ ∀ j v, (u8s (ZI.take N1))[j]? = some v → W1.cell? (ad.add j) = some v) := Lib.hid fun h0 => by
        have hl0 : 0 < NI := by
          simp only [u8s, List.length_map, List.length_take, hbi.len] at h0
          omega
        obtain ⟨b, o, e, hbl, hcc2⟩ := ((hbi.below hlw (Nat.le_trans HWB.out HT.out.low.size)).cell hl0)
        refine ⟨rfl, ⟨b, o, none⟩, e, fun j v hj => ?_⟩
        have hjl := (List.getElem?_eq_some_iff.1 hj).1
        simp only [u8s, List.length_map, List.length_take, hbi.len] at hjl
        rw [Addr.add_mid, hcc2 j (by omega), ← hj]
        simp only [u8s, List.getElem?_map, List.getElem?_take_of_lt (show j < N1 by omega)]
        rw [List.getElem?_eq_getElem (by rw [hbi.len]; omega), getD_eq ZI j (by rw [hbi.len]; omega)]
        rfl
      have HFIT : Hid (0 + (u8s (ZI.take N1)).length ≤ (u8s (List.replicate N1 0)).length) := Lib.hid (by simp only [u8s, List.length_map, List.length_take, List.length_replicate]; omega)
      have HONE : Hid (∀ u ∈ u8s (ZI.take N1), u.oneCell' = true) := Lib.hid fun u hu => by
        obtain ⟨y, _, rfl⟩ := List.mem_map.1 hu
        rfl
      have HGI : Hid (goInt (u8s (ZI.take N1)).length = .int .i64 ((min N1 NI : Nat) : Int)) := Lib.hid (by simp only [u8s, List.length_map, List.length_take, hbi.len]; rfl)
      have HSPL := Lib.hid (padZ_splice ZI N1)
      have HROW := Lib.hid hrow
      have HLW := Lib.hid hlw
      have HGZ := Lib.hid hg
      have HS1 := Lib.hid hs1
      have HZR : Hid (∀ z ∈ padZ ZI N1, 0 ≤ z ∧ z < 256) := Lib.hid (padZ_rng ZI N1 hbi.rng)
      have hli : (i : Int) < m := by omega
      clear hpr hcl hbi ck hNI hCI hAI hZI hrow hlw hs1
      go_upto_region 13 with fail
      (try rw [hg])
      (try rw [hW1])
      clear hmk hg hW1
      go_upto_region 14 with (refine wpList_copy_splice rfl (.tmp 47) (.tmp 51) 23 23 rfl 5 Try.underlying23 (by kernel_rfl) (some ⟨g, 0, none⟩) AI N1 N1 NI CI rfl rfl g 0 _ 5 HROW.out (u8s (ZI.take N1)) HCS.out HSRC.out HFIT.out HONE.out g W1 (Below.refl _ _) (Nat.le_refl _) ?_; intro W2 hW2 hB2; rw [HGI.out]; have HB2 := Lib.hid hB2; clear hB2)
      go_frame
      have hr2 := hW2.out
      rw [HSPL.out] at hr2
      obtain ⟨PZ, hPZ⟩ : ∃ PZ, padZ ZI N1 = PZ := ⟨_, rfl⟩
      have hpl := padZ_len ZI N1
      have hpr2 := HZR.out
      rw [hPZ] at hr2 hpl hpr2
      obtain ⟨x0, hx0⟩ : ∃ x0, PZ.getD 0 0 = x0 := ⟨_, rfl⟩
      have hxr := getD_rng PZ hpr2 0
      rw [hx0] at hxr
      have m0 : W2.cell? ⟨g, 0, none⟩ = some (.int .u8 x0) := by
        rw [cell_of_row W2 g 0 _ _ (0, 0) hr2, ← hx0]
        simp [u8s, List.getD, show 0 < PZ.length by omega]
      have mf := own_fr W2 g 0 PZ hr2
      obtain ⟨y0, hy0⟩ : ∃ y0, x0 % 5 = y0 := ⟨_, rfl⟩
      have em : x0.tmod 5 = y0 := by rw [Int.tmod_eq_emod_of_nonneg hxr.1]; exact hy0
      have wy : IntKind.u8.wrap y0 = y0 := by rw [IntKind.wrap_u8]; omega
      have hr3 := own_set W2 g 0 PZ y0 hr2
      obtain ⟨R, hR⟩ : ∃ R, PZ.set 0 y0 = R := ⟨_, rfl⟩
      have hRl : R.length = N1 := by rw [← hR, List.length_set]; exact hpl
      have hRr : ∀ z ∈ R, 0 ≤ z ∧ z < 256 := by rw [← hR]; exact set_rng PZ 0 y0 hpr2 (by omega)
      have hR0 : R.getD 0 0 = y0 := by rw [← hR, set_getD PZ 0 0 y0 (by omega), if_pos rfl]
      have hb3 : Below g W2 (W2.setCell ⟨g, 0, none⟩ (.int .u8 y0)) := ((Only.refl g W2).set_ 0 _).belowB (Nat.le_refl _) (Nat.le_of_lt (row_lt W2 g _ hr2))
      rw [hR] at hr3
      have HR4 : Hid (R.length = nn + 1 ∧ R.getD 0 0 ≤ 4) := Lib.hid ⟨by omega, by omega⟩
      have HRR := Lib.hid hRr
      have HRL := Lib.hid hRl
      have HR3 := Lib.hid hr3
      have HB3 := Lib.hid hb3
      have hN1b : (N1 : Int) ≤ 37 := by omega
      have hN10 : (0 : Int) < N1 := by omega
      clear hW2 hr2 hPZ hpl hpr2 hx0 hy0 hr3 hR hRl hRr hR0 hb3 ck1
      go_upto_region 15 with fail
      obtain ⟨W3, hW3⟩ : ∃ W3, W2.setCell ⟨g, 0, none⟩ (.int .u8 y0) = W3 := ⟨_, rfl⟩
      (try rw [hW3])
      rw [hW3] at HR3 HB3
      clear hW3 m0 mf em wy
      have hbw : Below wr.heap.size wr W3 := HLW.out.trans (by rw [HGZ.out]; exact HB2.out.trans HB3.out)
      have HBW := Lib.hid hbw
      have hgl := row_lt W3 g _ HR3.out
      have hi20 : i < 20 := by omega
      have hall := HT.out.all.kept hbw
      have hmul : (nn + 1) * i ≤ 37 * 20 := Nat.mul_le_mul (by omega) (by omega)
      have HAP := Lib.hid (hall.appendX (own_byt W3 g N1 R HR3.out HRL.out HRR.out) 23 (by omega) (Nat.le_trans HT.out.low.size hbw.size))
      have HKP : Hid (∀ v6 w6, KeepX av W3 v6 w6 → (∃ k, Mine w6 W7.heap.size lv k ((Rs.foldl (tagU cc nn) []).drop (nn * (i - 1)))) ∧ Mine w6 W7.heap.size pv (nn * i) (Rs.foldl (tagU cc nn) []) ∧ w6.heap[g]? = some (.cells (u8s R).toArray 5 (0, 0)) ∧ Below W7.heap.size W7 w6) := Lib.hid fun v6 w6 hk => by
        obtain ⟨k, hl⟩ := HT.out.last
        refine ⟨⟨k, (hl.kept hbw).keepX hk (fun b hb hc => HT.out.ol b hc hb)⟩, (HT.out.plain.kept hbw).keepX hk (fun b hb hc => HT.out.op b hc hb), (hk.block g hgl (fun e => ?_)).trans HR3.out, (HT.out.low.trans (hbw.mono HT.out.low.size)).trans (hk.below (Nat.le_trans HT.out.low.size hbw.size) (fun b hb => hall.owned b hb))⟩
        have := HT.out.all.lt g e
        have := HGZ.out
        omega
      obtain ⟨AA, cA, hav, _⟩ := hall.byt
      have HAV := Lib.hid hav
      have HGL := Lib.hid hgl
      clear hbw hall hmul hgl
      subst hav
      go_upto_region 16 with (at_builtin; obtain ⟨v6, w6, hrun, hm6, hk6⟩ := HAP.out; obtain ⟨A6, c6, hv6, _⟩ := hm6.byt; subst hv6; refine Lib.wpList_append_run_sl _ rfl (.tmp 59) (.tmp 60) 23 rfl _ _ rfl rfl hrun ?_; clear hrun; have HM6 := Lib.hid hm6; have HK6 := Lib.hid (HKP.out _ _ hk6); have HKX := Lib.hid hk6; clear hm6 hk6)
      obtain ⟨Y, hYl, hfold, hX, hY0, hY1⟩ := tags_pure cc kk nn i HMAY.out HNN.out hnb.1 hcc4.1 Rs R HT.out.len HT.out.rows HR4.out
      have hplen := fold_len cc nn Rs [] HT.out.rows
      rw [List.length_nil, Nat.zero_add, HT.out.len] at hplen
      obtain ⟨hlk, hpM, hg6, hB6⟩ := HK6.out
      obtain ⟨PL, hPL⟩ : ∃ PL, Rs.foldl (tagU cc nn) [] = PL := ⟨_, rfl⟩
      obtain ⟨LZ, hLZ⟩ : ∃ LZ, PL.drop (nn * (i - 1)) = LZ := ⟨_, rfl⟩
      rw [hPL] at hfold hX hY1 hplen hlk hpM
      rw [hLZ] at hY1 hlk
      obtain ⟨kL, hlM⟩ := hlk
      obtain ⟨AL, cl, hlv, hlb⟩ := hlM.byt
      subst hlv
      obtain ⟨Q, hQ⟩ : ∃ Q, nn * i = Q := ⟨_, rfl⟩
      have hQb : Q ≤ 36 * 20 := by rw [← hQ]; exact Nat.mul_le_mul hnb.2 (by omega)
      obtain ⟨NX, hNX⟩ : ∃ NX, (PL ++ Y).length = NX := ⟨_, rfl⟩
      rw [hQ] at hplen hpM
      have hNXQ : NX = Q + nn := by rw [← hNX, List.length_append, hplen, hYl]
      have hmA := HM6.out
      obtain ⟨LA, hLA⟩ : ∃ LA, N1 * i + N1 = LA := ⟨_, rfl⟩
      rw [hN1, hLA] at hmA
      (try rw [hLA])
      have hLAb : LA ≤ 1000 := by
        have : N1 * i ≤ 37 * 20 := Nat.mul_le_mul (by omega) (by omega)
        omega
      have hfl : (Rs ++ [R]).flatten = Rs.flatten ++ R := by simp
      have HMA : Hid (Mine w6 W7.heap.size (.slice A6 LA c6) LA (Rs ++ [R]).flatten) := Lib.hid (by rw [hfl]; exact hmA)
      have HDX := Lib.hid (fun W (hW : Byt W W.heap.size A6 LA c6 (Rs ++ [R]).flatten) => pDecode 15 cc kk A6 LA c6 (Rs ++ [R]).flatten W hW (by omega) (PL ++ Y, 0) hX)
      have HXL := Lib.hid hNX
      have HYL := Lib.hid hYl
      have HFO := Lib.hid hfold
      have HY0 := Lib.hid hY0
      have HY1 := Lib.hid hY1
      have HLB := Lib.hid hlb
      have HPM := Lib.hid hpM
      have HG6 := Lib.hid hg6
      have HB6 := Lib.hid hB6
      have HPLL := Lib.hid hplen
      have HQ : Hid (NX = Q + nn ∧ nn * i = Q) := Lib.hid ⟨hNXQ, hQ⟩
      have HXQ : Hid (((PL ++ Y).drop Q).take nn = Y ∧ (PL ++ Y).take Q = PL) := Lib.hid (by
        rw [← hplen, List.drop_left, List.take_left, ← hYl, List.take_length]; exact ⟨rfl, rfl⟩)
      have hkL : kL ≤ 1000 := by
        have e1 := hlb.len
        rw [← e1, ← hLZ, List.length_drop, hplen]
        omega
      have HSW := Lib.hid (fun W (hW : Below w6.heap.size w6 W) => HSH.out.below (hB6.trans (hW.mono hB6.size)) (by have := HSZ.out; omega))
      have k0 := (HSW.out w6 (Below.refl _ _)).c0
      have k1 := (HSW.out w6 (Below.refl _ _)).c1
      have k2 := (HSW.out w6 (Below.refl _ _)).c2
      have eQ : (i : Int) * (nn : Int) = Q := by rw [← hQ]; simp [Int.mul_comm]
      have wQ : IntKind.i64.wrap (Q : Int) = Q := IntWalk.i64_in _ (by omega)
      have eI : ((i : Int) + 1) * (nn : Int) = NX := by rw [hNXQ, ← hQ, Int.add_mul, Int.one_mul]; simp [Int.mul_comm]
      have wI : IntKind.i64.wrap ((i : Int) + 1) = (i : Int) + 1 := IntWalk.i64_in _ (by omega)
      have wX : IntKind.i64.wrap (NX : Int) = NX := IntWalk.i64_in _ (by omega)
      have hNXb : NX ≤ 1000 := by omega
      have hnb1 := hnb.1
      clear hX hfold hY0 hY1 hlM hlb hpM hg6 hB6 hplen hPL hLZ hNX hNXQ hmA hfl hLA hQ hYl HAP HKP
      go_upto_region 17 with (first
        | (go_at_call 13; refine (HSP.out _).mono ?_; (rintro r w5 ⟨rfl, hb5⟩); have HMA5 := Lib.hid (HMA.out.kept hb5); have HD5 := Lib.hid hb5; clear hb5)
        | (go_at_call 9; refine (HDX.out _ (by obtain ⟨A, c, e, h⟩ := HMA5.out.byt; injection e with e1 e2 e3; subst e1 e3; exact h)).mono ?_; intro r w8 h8; obtain ⟨AX, cX, rfl, hy8, hb8⟩ := h8.at9 HXL.out; clear h8; have HX8 := Lib.hid hy8; have HD8 := Lib.hid (HD5.out.trans (hb8.mono HD5.out.size)); clear hy8 hb8))
      obtain ⟨A9, n9, c9, W9, hr9, A10, c10, W10, hr10, hy10, hb10⟩ := two_app w8 g N1 kL cl AL LZ R ((HD8.out.block g (row_lt w6 g _ HG6.out)).trans HG6.out) HRL.out HRR.out ((HLB.out.below HD8.out (Nat.le_refl _)).more HD8.out.size) (by omega)
      have HR9 := Lib.hid hr9
      have HR10 := Lib.hid hr10
      have HY10 := Lib.hid hy10
      have HXB : Hid (∀ W, Below w8.heap.size w8 W → Byt W W.heap.size AX NX cX (PL ++ Y)) := Lib.hid fun W hW => (HX8.out.below hW (Nat.le_refl _)).more hW.size
      have HD10 := Lib.hid hb10
      have HSW8 := Lib.hid (fun W (hW : Below w8.heap.size w8 W) => HSW.out W (HD8.out.trans (hW.mono HD8.out.size)))
      have HPM8 := Lib.hid (HPM.out.kept HD8.out)
      obtain ⟨LT, hLT⟩ : ∃ LT, 1 + kL + N1 = LT := ⟨_, rfl⟩
      rw [hLT] at HR10 HY10
      have HLT := Lib.hid hLT
      clear hr9 hr10 hy10 hb10 hLT k0 k1 k2
      by_cases hi0 : i = 0
      · have i2 : ((i : Int) == 0) = true := beq_iff_eq.2 (by omega)
        have HI0 := Lib.hid hi0
        clear hi0
        go_upto_region 20 with (first
          | (at_builtin; refine Lib.wpList_append_run_sl _ rfl (.tmp 69) (.tmp 70) 23 rfl _ _ rfl rfl HR9.out ?_)
          | (at_builtin; refine Lib.wpList_append_run_sl _ rfl (.tmp 71) (.tmp 72) 23 rfl _ _ rfl rfl HR10.out ?_))
        obtain ⟨L2, hL2⟩ : ∃ L2 : Nat, nn = L2 := ⟨_, rfl⟩
        obtain ⟨Q2, hQ2⟩ : ∃ Q2 : Nat, 0 = Q2 := ⟨_, rfl⟩
        have eQ2 : (L2 : Int) - nn = Q2 := by omega
        have wQ2 : IntKind.i64.wrap (Q2 : Int) = Q2 := IntWalk.i64_in _ (by omega)
        have hL2n : ¬ (L2 : Int) < nn := by omega
        have hL2b : decide (L2 < nn) = false := decide_eq_false (by omega)
        have hLQ : L2 - Q2 = nn ∧ Q2 + nn = L2 ∧ Q2 ≤ L2 := by omega
        have HLQ := Lib.hid hLQ
        have HTW := Lib.hid (own_byt W10 g N1 R ((HD10.out.block g (Nat.lt_of_lt_of_le (row_lt w6 g _ HG6.out) HD8.out.size)).trans ((HD8.out.block g (row_lt w6 g _ HG6.out)).trans HG6.out)) HRL.out HRR.out)
        have HDY := Lib.hid (fun W (hW : Byt W W.heap.size (some ⟨g, 0, none⟩) N1 N1 R) => pDecode 15 cc kk (some ⟨g, 0, none⟩) N1 N1 R W hW (by omega) (Y, 0) (HY0.out HI0.out))
        have HYYL : Hid (Y.length = L2) := Lib.hid (by rw [HYL.out, hL2])
        have HYQ : Hid ((Y.drop Q2).take nn = Y) := Lib.hid (by rw [← hQ2, List.drop_zero, ← HYL.out, List.take_length])
        clear hL2 hQ2 hLQ
        have k0 := (HSW8.out _ HD10.out).c0
        have k1 := (HSW8.out _ HD10.out).c1
        have k2 := (HSW8.out _ HD10.out).c2
        go_upto_region 21 with (first
          | (go_at_call 13; refine (HSP.out _).mono ?_; (rintro r w5 ⟨rfl, hb5⟩); have HTW5 := Lib.hid ((HTW.out.below hb5 (Nat.le_refl _)).more hb5.size); have HD11 := Lib.hid (HD10.out.trans (hb5.mono HD10.out.size)); clear hb5)
          | (go_at_call 9; refine (HDY.out _ HTW5.out).mono ?_; intro r w11 h11; obtain ⟨AY, cY, rfl, hy11, hb11⟩ := h11.at9 HYYL.out; clear h11; have HYY := Lib.hid hy11; have HD12 := Lib.hid (HD11.out.trans (hb11.mono HD11.out.size)); clear hy11 hb11))
        have hyx := HXB.out _ HD12.out
        have hcx := hyx.cap
        have hcy := HYY.out.cap
        have hs1 : ∀ W, (Instr.slice 23 (.slice AX NX cX) (some (.int .i64 (Q : Int))) none none).run Try.prog W = .ok (.slice (cutA AX cX Q) nn (cX - Q)) W := fun W => by
          have := run_cutR (P := Try.prog) W 23 5 Try.underlying23 (fun w => by kernel_rfl) AX NX cX Q (by have := HQ.out; omega) hcx
          rw [show NX - Q = nn by have := HQ.out; omega] at this
          exact this
        have hs2 : ∀ W, (Instr.slice 23 (.slice AX NX cX) none (some (.int .i64 (Q : Int))) none).run Try.prog W = .ok (.slice (cutA AX cX 0) Q cX) W := fun W =>
          run_cut0 (P := Try.prog) W 23 5 Try.underlying23 (fun w => by kernel_rfl) AX NX cX Q (by have := HQ.out; omega)
        have hs3 : ∀ W, (Instr.slice 23 (.slice AY L2 cY) (some (.int .i64 (Q2 : Int))) none none).run Try.prog W = .ok (.slice (cutA AY cY Q2) nn (cY - Q2)) W := fun W => by
          have := run_cutR (P := Try.prog) W 23 5 Try.underlying23 (fun w => by kernel_rfl) AY L2 cY Q2 (by have := HLQ.out; omega) hcy
          rw [show L2 - Q2 = nn from HLQ.out.1] at this
          exact this
        have hbx1 : Byt w11 w11.heap.size (cutA AX cX Q) nn (cX - Q) Y := by
          have := hyx.cut (l := Q) (m := nn) (by have := HQ.out; omega)
          rw [HXQ.out.1] at this
          exact this
        have hbx2 : Byt w11 w11.heap.size (cutA AX cX 0) Q cX PL := by
          have := hyx.first (m := Q) (by have := HQ.out; omega)
          rw [HXQ.out.2] at this
          exact this
        have hby3 : Byt w11 w11.heap.size (cutA AY cY Q2) nn (cY - Q2) Y := by
          have := HYY.out.cut (l := Q2) (m := nn) (by have := HLQ.out; omega)
          rw [HYQ.out] at this
          exact this
        obtain ⟨kP, AP, cP, hpv, hpb⟩ : ∃ kP AP cP, pv = .slice AP kP cP ∧ Byt w11 w11.heap.size AP kP cP PL := by
          have h1 := HPM8.out.kept HD12.out
          obtain ⟨AP, cP, e, hy⟩ := h1.byt
          exact ⟨_, AP, cP, e, hy⟩
        have hkP : kP = Q := by
          have e1 := hpb.len
          have e2 := hbx2.len
          omega
        rw [hkP] at hpv hpb
        subst hpv
        obtain ⟨B1, hB1⟩ : ∃ B1, cutA AX cX Q = B1 := ⟨_, rfl⟩
        obtain ⟨B2, hB2⟩ : ∃ B2, cutA AX cX 0 = B2 := ⟨_, rfl⟩
        obtain ⟨B3, hB3⟩ : ∃ B3, cutA AY cY Q2 = B3 := ⟨_, rfl⟩
        obtain ⟨D1, hD1⟩ : ∃ D1, cX - Q = D1 := ⟨_, rfl⟩
        obtain ⟨D3, hD3⟩ : ∃ D3, cY - Q2 = D3 := ⟨_, rfl⟩
        simp only [hB1, hD1] at hs1 hbx1
        simp only [hB2] at hs2 hbx2
        simp only [hB3, hD3] at hs3 hby3
        have HSA := Lib.hid (fun k => refSame_yes B1 B3 nn D1 _ D3 _ Y (w11.drewN k) (hbx1.drewN k) (hby3.drewN k) (by omega))
        have HSB := Lib.hid (fun k => refSame_yes B2 AP Q cX _ cP _ PL (w11.drewN k) (hbx2.drewN k) (hpb.drewN k) (by have := HQ.out; omega))
        have HX1 := Lib.hid hbx1
        have HYX2 := Lib.hid hyx
        clear hB1 hB2 hB3 hD1 hD3 hkP hyx hcx hcy hbx1 hbx2 hby3 hpb k0 k1 k2
        go_quiet ((first | (go_at_call 11; with_reducible exact Calls.quiet_of (HSA.out _)) | (go_at_call 11; with_reducible exact Calls.quiet_of (HSB.out _))))
        have HCP := Lib.hid (refCopy AX NX cX (PL ++ Y) (w11.drewN nq) (HYX2.out.drewN nq) (by omega))
        have HCL := Lib.hid (fun W (hW : Below w11.heap.size (w11.drewN nq) W) => refCopy B1 nn D1 Y W (((HX1.out.drewN nq).below hW (Nat.le_refl _)).more hW.size) (by omega))
        go_wp2_with (first
          | (go_at_call 17; with_reducible refine HCP.out.mono ?_; (rintro r w12 ⟨vP, rfl, hmP, hbP⟩); have HMP := Lib.hid hmP; have HBP := Lib.hid hbP; clear hmP hbP)
          | (go_at_call 17; refine (HCL.out _ HBP.out).mono ?_; (rintro r w13 ⟨vL, rfl, hmL, hbL⟩); have HML := Lib.hid hmL; have HBL := Lib.hid hbL; clear hmL hbL))
        go_roundw
        case rel =>
          have h13 : Below w11.heap.size w11 w13 := (show Below w11.heap.size w11 w12 from (below_drewN (Below.refl _ _) nq).trans HBP.out).trans (HBL.out.mono HBP.out.size)
          have h613 : Below w6.heap.size w6 w13 := (HD8.out.trans (HD12.out.mono HD8.out.size)).trans (h13.mono (Nat.le_trans HD8.out.size HD12.out.size))
          refine ⟨i + 1, _, vL, vP, Rs ++ [R], rfl, rfl, rfl, hlt, by go_num, Lib.hid (tg_next W7 w6 w11 w12 w13 cc nn i Rs R PL Y Q NX LA A6 c6 vL vP HT.out.len HT.out.rows HR4.out HMA.out HFO.out HPLL.out HQ.out HYL.out HMP.out HBP.out.size HML.out HBL.out h613 h13 ?_ HB6.out)⟩
          exact Nat.le_trans HD8.out.size HD12.out.size
        case measure => simp [intOf]; omega
      · have i2 : ((i : Int) == 0) = false := beq_eq_false_iff_ne.2 (by omega)
        have HI0 := Lib.hid hi0
        clear hi0
        go_upto_region 20 with (first
          | (at_builtin; refine Lib.wpList_append_run_sl _ rfl (.tmp 69) (.tmp 70) 23 rfl _ _ rfl rfl HR9.out ?_)
          | (at_builtin; refine Lib.wpList_append_run_sl _ rfl (.tmp 71) (.tmp 72) 23 rfl _ _ rfl rfl HR10.out ?_))
        obtain ⟨L2, hL2⟩ : ∃ L2 : Nat, nn + nn = L2 := ⟨_, rfl⟩
        obtain ⟨Q2, hQ2⟩ : ∃ Q2 : Nat, nn = Q2 := ⟨_, rfl⟩
        have eQ2 : (L2 : Int) - nn = Q2 := by omega
        have wQ2 : IntKind.i64.wrap (Q2 : Int) = Q2 := IntWalk.i64_in _ (by omega)
        have hL2n : ¬ (L2 : Int) < nn := by omega
        have hL2b : decide (L2 < nn) = false := decide_eq_false (by omega)
        have hLQ : L2 - Q2 = nn ∧ Q2 + nn = L2 ∧ Q2 ≤ L2 := by omega
        have HLQ := Lib.hid hLQ
        have hy1 := HY1.out (by have := HI0.out; omega)
        have HTW := HY10
        have HDY := Lib.hid (fun W (hW : Byt W W.heap.size A10 LT c10 ([0] ++ LZ ++ R)) => pDecode 15 cc kk A10 LT c10 ([0] ++ LZ ++ R) W hW (by have := HLT.out; omega) (LZ ++ Y, 0) hy1.2)
        have HYYL : Hid ((LZ ++ Y).length = L2) := Lib.hid (by rw [List.length_append, hy1.1, HYL.out, hL2])
        have HYQ : Hid (((LZ ++ Y).drop Q2).take nn = Y) := Lib.hid (by rw [← hQ2, ← hy1.1, List.drop_left, hy1.1, ← HYL.out, List.take_length])
        clear hL2 hQ2 hLQ hy1
        have k0 := (HSW8.out _ HD10.out).c0
        have k1 := (HSW8.out _ HD10.out).c1
        have k2 := (HSW8.out _ HD10.out).c2
        go_upto_region 21 with (first
          | (go_at_call 13; refine (HSP.out _).mono ?_; (rintro r w5 ⟨rfl, hb5⟩); have HTW5 := Lib.hid ((HTW.out.below hb5 (Nat.le_refl _)).more hb5.size); have HD11 := Lib.hid (HD10.out.trans (hb5.mono HD10.out.size)); clear hb5)
          | (go_at_call 9; refine (HDY.out _ HTW5.out).mono ?_; intro r w11 h11; obtain ⟨AY, cY, rfl, hy11, hb11⟩ := h11.at9 HYYL.out; clear h11; have HYY := Lib.hid hy11; have HD12 := Lib.hid (HD11.out.trans (hb11.mono HD11.out.size)); clear hy11 hb11))
        have hyx := HXB.out _ HD12.out
        have hcx := hyx.cap
        have hcy := HYY.out.cap
        have hs1 : ∀ W, (Instr.slice 23 (.slice AX NX cX) (some (.int .i64 (Q : Int))) none none).run Try.prog W = .ok (.slice (cutA AX cX Q) nn (cX - Q)) W := fun W => by
          have := run_cutR (P := Try.prog) W 23 5 Try.underlying23 (fun w => by kernel_rfl) AX NX cX Q (by have := HQ.out; omega) hcx
          rw [show NX - Q = nn by have := HQ.out; omega] at this
          exact this
        have hs2 : ∀ W, (Instr.slice 23 (.slice AX NX cX) none (some (.int .i64 (Q : Int))) none).run Try.prog W = .ok (.slice (cutA AX cX 0) Q cX) W := fun W =>
          run_cut0 (P := Try.prog) W 23 5 Try.underlying23 (fun w => by kernel_rfl) AX NX cX Q (by have := HQ.out; omega)
        have hs3 : ∀ W, (Instr.slice 23 (.slice AY L2 cY) (some (.int .i64 (Q2 : Int))) none none).run Try.prog W = .ok (.slice (cutA AY cY Q2) nn (cY - Q2)) W := fun W => by
          have := run_cutR (P := Try.prog) W 23 5 Try.underlying23 (fun w => by kernel_rfl) AY L2 cY Q2 (by have := HLQ.out; omega) hcy
          rw [show L2 - Q2 = nn from HLQ.out.1] at this
          exact this
        have hbx1 : Byt w11 w11.heap.size (cutA AX cX Q) nn (cX - Q) Y := by
          have := hyx.cut (l := Q) (m := nn) (by have := HQ.out; omega)
          rw [HXQ.out.1] at this
          exact this
        have hbx2 : Byt w11 w11.heap.size (cutA AX cX 0) Q cX PL := by
          have := hyx.first (m := Q) (by have := HQ.out; omega)
          rw [HXQ.out.2] at this
          exact this
        have hby3 : Byt w11 w11.heap.size (cutA AY cY Q2) nn (cY - Q2) Y := by
          have := HYY.out.cut (l := Q2) (m := nn) (by have := HLQ.out; omega)
          rw [HYQ.out] at this
          exact this
        obtain ⟨kP, AP, cP, hpv, hpb⟩ : ∃ kP AP cP, pv = .slice AP kP cP ∧ Byt w11 w11.heap.size AP kP cP PL := by
          have h1 := HPM8.out.kept HD12.out
          obtain ⟨AP, cP, e, hy⟩ := h1.byt
          exact ⟨_, AP, cP, e, hy⟩
        have hkP : kP = Q := by
          have e1 := hpb.len
          have e2 := hbx2.len
          omega
        rw [hkP] at hpv hpb
        subst hpv
        obtain ⟨B1, hB1⟩ : ∃ B1, cutA AX cX Q = B1 := ⟨_, rfl⟩
        obtain ⟨B2, hB2⟩ : ∃ B2, cutA AX cX 0 = B2 := ⟨_, rfl⟩
        obtain ⟨B3, hB3⟩ : ∃ B3, cutA AY cY Q2 = B3 := ⟨_, rfl⟩
        obtain ⟨D1, hD1⟩ : ∃ D1, cX - Q = D1 := ⟨_, rfl⟩
        obtain ⟨D3, hD3⟩ : ∃ D3, cY - Q2 = D3 := ⟨_, rfl⟩
        simp only [hB1, hD1] at hs1 hbx1
        simp only [hB2] at hs2 hbx2
        simp only [hB3, hD3] at hs3 hby3
        have HSA := Lib.hid (fun k => refSame_yes B1 B3 nn D1 _ D3 _ Y (w11.drewN k) (hbx1.drewN k) (hby3.drewN k) (by omega))
        have HSB := Lib.hid (fun k => refSame_yes B2 AP Q cX _ cP _ PL (w11.drewN k) (hbx2.drewN k) (hpb.drewN k) (by have := HQ.out; omega))
        have HX1 := Lib.hid hbx1
        have HYX2 := Lib.hid hyx
        clear hB1 hB2 hB3 hD1 hD3 hkP hyx hcx hcy hbx1 hbx2 hby3 hpb k0 k1 k2
        go_quiet ((first | (go_at_call 11; with_reducible exact Calls.quiet_of (HSA.out _)) | (go_at_call 11; with_reducible exact Calls.quiet_of (HSB.out _))))
        have HCP := Lib.hid (refCopy AX NX cX (PL ++ Y) (w11.drewN nq) (HYX2.out.drewN nq) (by omega))
        have HCL := Lib.hid (fun W (hW : Below w11.heap.size (w11.drewN nq) W) => refCopy B1 nn D1 Y W (((HX1.out.drewN nq).below hW (Nat.le_refl _)).more hW.size) (by omega))
        go_wp2_with (first
          | (go_at_call 17; with_reducible refine HCP.out.mono ?_; (rintro r w12 ⟨vP, rfl, hmP, hbP⟩); have HMP := Lib.hid hmP; have HBP := Lib.hid hbP; clear hmP hbP)
          | (go_at_call 17; refine (HCL.out _ HBP.out).mono ?_; (rintro r w13 ⟨vL, rfl, hmL, hbL⟩); have HML := Lib.hid hmL; have HBL := Lib.hid hbL; clear hmL hbL))
        go_roundw
        case rel =>
          have h13 : Below w11.heap.size w11 w13 := (show Below w11.heap.size w11 w12 from (below_drewN (Below.refl _ _) nq).trans HBP.out).trans (HBL.out.mono HBP.out.size)
          have h613 : Below w6.heap.size w6 w13 := (HD8.out.trans (HD12.out.mono HD8.out.size)).trans (h13.mono (Nat.le_trans HD8.out.size HD12.out.size))
          refine ⟨i + 1, _, vL, vP, Rs ++ [R], rfl, rfl, rfl, hlt, by go_num, Lib.hid (tg_next W7 w6 w11 w12 w13 cc nn i Rs R PL Y Q NX LA A6 c6 vL vP HT.out.len HT.out.rows HR4.out HMA.out HFO.out HPLL.out HQ.out HYL.out HMP.out HBP.out.size HML.out HBL.out h613 h13 ?_ HB6.out)⟩
          exact Nat.le_trans HD8.out.size HD12.out.size
        case measure => simp [intOf]; omega
    · obtain rfl : m = i := by omega
      go_wp2_with fail
      go_ret
      exact ⟨rfl, HA4.out.trans (HT.out.low.mono HWB.out)⟩
set_option maxRecDepth 100000 in
theorem tags_lifted (os : Os) (started : os.Started) (H : Type) (enc : TypeId × Value → H) :
    ReturnsInHanded {} Try.checked os 6 .any (Rows.predictTagsSpec.pre6 enc Try.prog Try.f6 Rows.predictTagsRow.domain false) (Rows.predictTagsSpec.post enc Try.prog Try.f6 false true false false) := by
  refine returnsInHanded_of_change (C := Try.checked) own started (by kernel_rfl) Try.func6
    (ChangeSpec.witness6 (enc := enc) (C := Try.checked) false ⟨#[], #[.int .u8 0, .int .u8 0, .slice none 0 0], []⟩ 8 (by kernel_rfl) (by kernel_rfl) (by kernel_rfl) (by kernel_rfl)) ?_
  intro W base args ds gs before hval0 hW hcnd _
  have hval : ∀ (j : Nat) t v, Try.f6.params[j]? = some t → args[j]? = some v → Value.okWide Try.prog W .any base t v := hval0
  have hW' := hW
  obtain ⟨p, q, hA0, hV, rfl, hfz, hnd⟩ := hW
  have hA : DataW.TrodAll enc Try.prog W 0 (fun _ => true) true Try.f6.params.toList args.toList ds p := hA0
  rw [Try.params6] at hA hval
  obtain ⟨v0, vs0, d0, ds0, p0, q0, hargs, rfl, rfl, h0, r0⟩ := trodAll_cons hA
  obtain ⟨v1, vs1, d1, ds1, p1, q1, rfl, rfl, rfl, h1, r1⟩ := trodAll_cons r0
  obtain ⟨v2, vs2, d2, ds2, p2, q2, rfl, rfl, rfl, h2, r2⟩ := trodAll_cons r1
  obtain ⟨rfl, rfl, rfl⟩ := trodAll_nil r2
  obtain rfl : args = #[v0, v1, v2] := by cases args; simp_all
  obtain ⟨rfl, rfl⟩ := trodVars_none hV
  obtain ⟨x0, rfl⟩ := okWide_int Try.underlying5 (hval 0 5 v0 rfl rfl)
  obtain ⟨lo0, hi0⟩ := open_intk Try.underlying5 h0
  rw [show IntKind.u8.min = 0 by decide] at lo0
  rw [show IntKind.u8.max = 255 by decide] at hi0
  have lt0 : ∀ x ∈ p0, x.block < W.heap.size := by obtain ⟨m, hm⟩ := h0; exact DataW.trod_lt m _ _ _ hm
  obtain ⟨x1, rfl⟩ := okWide_int Try.underlying5 (hval 1 5 v1 rfl rfl)
  obtain ⟨lo1, hi1⟩ := open_intk Try.underlying5 h1
  rw [show IntKind.u8.min = 0 by decide] at lo1
  rw [show IntKind.u8.max = 255 by decide] at hi1
  have lt1 : ∀ x ∈ p1, x.block < W.heap.size := by obtain ⟨m, hm⟩ := h1; exact DataW.trod_lt m _ _ _ hm
  obtain ⟨a2, len2, cap2, rfl⟩ := okWide_slice Try.underlying36 (hval 2 36 v2 rfl rfl)
  obtain ⟨As, Ns, Cs, Z, hn2, hp2, hNs2⟩ := open_parts h2 (fun _ => rfl)
  have lt2 : ∀ x ∈ p2, x.block < W.heap.size := by obtain ⟨m, hm⟩ := h2; exact DataW.trod_lt m _ _ _ hm
  clear hA0 hval0
  refine (tags_walk x0 x1 a2 len2 cap2 As Ns Cs Z W ⟨lo0, hi0⟩ ⟨lo1, hi1⟩ hp2 hn2).mono fun e W' ⟨he, bel⟩ => ?_
  subst he
  exact ⟨_, rfl, _, _, _, [], _, [], hW', trodAll_mk1 (shut_bool Try.underlying4 _), (trodAll_cons_mk (Below.trod laidOut (by kernel_rfl) (of_decide_eq_true (by kernel_rfl)) h0 bel lt0) (trodAll_cons_mk (Below.trod laidOut (by kernel_rfl) (of_decide_eq_true (by kernel_rfl)) h1 bel lt1) (trodAll_cons_mk (Below.trod laidOut (by kernel_rfl) (of_decide_eq_true (by kernel_rfl)) h2 bel lt2) trodAll_mk0))), rfl, bel.frame _, fun h => by cases h⟩

/-- PredictTags: it answers true. -/
theorem tags_holds : Rows.PredictTagsSaid :=
  OpenClaim.holds_of_wide 6 Try.f6 rfl rfl rfl rfl rfl rfl rfl ⟨rfl, rfl, rfl, rfl, rfl⟩ rfl rfl rfl rfl rfl (by kernel_rfl) Try.func6 (by kernel_rfl)
    (of_decide_eq_true (by kernel_rfl)) (by unfold Func.isWrapper; first | (rw [if_pos (by decide +kernel)]; kernel_rfl) | (rw [if_neg (by decide +kernel)]; exact ⟨rfl, rfl⟩))
    (fun os started H enc _ => tags_lifted os started H enc)
#print axioms tags_holds

end Go.Proofs.Ytagkjndiifcekaa
