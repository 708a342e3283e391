/- Contracts of functions that the law calls, and what they lean on (a part). -/
import Derived.Test.YtpomkhcobpihmaaBla2
import Derived.Test.YtpomkhcobpihmaaBla10
import Derived.Test.YtpomkhcobpihmaaBla11
namespace Go.Proofs.Ytpomkhcobpihmaa
section
open Go.RowKit
set_option linter.unusedVariables false
set_option maxRecDepth 100000
/-- The lexer in block h, its cursor in block g, over the slice '.slice A n c', at the place p. -/
structure LX (w : World) (h g : Nat) (A : Option Addr) (n c p : Nat) : Prop where
  lx : w.heap[h]? = some (.cells #[.pointer (some ⟨g, 0, none⟩)] 82 (0, 0))
  cu : Cur w g A n c p
  ne : h ≠ g
  pl : p ≤ n
section
variable {w w' : World} {h g n c p q B : Nat} {A : Option Addr}
theorem LX.lt (x : LX w h g A n c p) : h < w.heap.size := by
  rcases Nat.lt_or_ge h w.heap.size with hlt | hge
  · exact hlt
  · have := x.lx; rw [Array.getElem?_eq_none hge] at this; cases this
theorem LX.k0 (x : LX w h g A n c p) : w.cell? ⟨h, 0, none⟩ = some (.pointer (some ⟨g, 0, none⟩)) := by rw [cell_of_row w h 0 _ 82 (0, 0) x.lx]; rfl
theorem LX.drewN (x : LX w h g A n c p) (k : Nat) : LX (w.drewN k) h g A n c p := ⟨x.lx, x.cu.drewN k, x.ne, x.pl⟩
theorem LX.moved (x : LX w h g A n c p) (hc : Cur w' g A n c q) (ho : Only g w w') (hq : q ≤ n) : LX w' h g A n c q := ⟨(ho.block h x.lt x.ne).trans x.lx, hc, x.ne, hq⟩
theorem LX.below (x : LX w h g A n c p) (hb : Below B w w') (hh : h < B) (hg : g < B) : LX w' h g A n c p := ⟨(hb.block h hh).trans x.lx, x.cu.below hb hg, x.ne, x.pl⟩
end
theorem pregC (c : Int) (w : World) : Calls Try.prog 91 #[.int .i64 c] w fun e w' => e = .returned (.bool (regB c)) ∧ w = w' := by
  have HWH := Lib.hid (fun W => pwhite c W)
  rcases hd : delB c with _ | _
  · obtain ⟨d1, d2, d3, d4, d5, d6, d7, d8, d9, d10⟩ := del_nor c hd
    have hr : regB c = (decide (0 ≤ c) && decide (c ≤ 255) && !whB c) := by unfold regB; rw [hd]; rfl
    rw [hr]
    clear hr hd
    by_cases h1 : 0 ≤ c
    · by_cases h2 : c ≤ 255
      · have e : (decide (0 ≤ c) && decide (c ≤ 255) && !whB c) = !whB c := by simp [h1, h2]
        rw [e]
        clear e
        go_enter Try.func91, Try.ntmps91
        go_wp2_with (go_at_call 86; refine (HWH.out _).mono ?_; (rintro e w7 ⟨rfl, rfl⟩); dsimp only)
        go_ret
        exact ⟨rfl, rfl⟩
      · have e : (decide (0 ≤ c) && decide (c ≤ 255) && !whB c) = false := by simp [h2]
        have e2 : decide (c ≤ 255) = false := decide_eq_false h2
        rw [e]
        clear e
        go_enter Try.func91, Try.ntmps91
        go_wp2_with fail
        go_ret
        exact ⟨rfl, rfl⟩
    · have e : (decide (0 ≤ c) && decide (c ≤ 255) && !whB c) = false := by simp [h1]
      have e2 : decide (0 ≤ c) = false := decide_eq_false h1
      rw [e]
      clear e
      go_enter Try.func91, Try.ntmps91
      go_wp2_with fail
      go_ret
      exact ⟨rfl, rfl⟩
  · clear HWH
    rcases del_or c hd with rfl | rfl | rfl | rfl | rfl | rfl | rfl | rfl | rfl | rfl <;> (clear hd; go_enter Try.func91, Try.ntmps91; go_wp2_with fail; go_ret; exact ⟨rfl, rfl⟩)
theorem pcommentC (c : Int) (w : World) : Calls Try.prog 88 #[.int .i64 c] w fun e w' => e = .returned (.bool (cmB c)) ∧ w = w' := by
  by_cases h1 : 0 ≤ c
  · by_cases h3 : c = 10
    · subst h3
      go_enter Try.func88, Try.ntmps88
      go_wp2_with fail
      go_ret
      exact ⟨rfl, rfl⟩
    · have e : cmB c = (c != 10 && c != 13) := by unfold cmB; simp [h1, bne]
      rw [e]
      clear e
      go_enter Try.func88, Try.ntmps88
      go_wp2_with fail
      go_ret
      exact ⟨rfl, rfl⟩
  · have e : cmB c = false := by unfold cmB; simp [h1]
    have e2 : decide (0 ≤ c) = false := decide_eq_false h1
    rw [e]
    clear e
    go_enter Try.func88, Try.ntmps88
    go_wp2_with fail
    go_ret
    exact ⟨rfl, rfl⟩
theorem pnumericC (c : Int) (w : World) : Calls Try.prog 89 #[.int .i64 c] w fun e w' => e = .returned (.bool (nmB c)) ∧ w = w' := by
  obtain ⟨h1, h2⟩ | rfl | rfl | rfl | ⟨h0, h1, h2, h3⟩ | h0 : (48 ≤ c ∧ c ≤ 57) ∨ c = 43 ∨ c = 45 ∨ c = 46 ∨ (c < 48 ∧ c ≠ 43 ∧ c ≠ 45 ∧ c ≠ 46) ∨ 57 < c := by omega
  · have e : nmB c = true := by unfold nmB; simp; omega
    rw [e]
    clear e
    go_enter Try.func89, Try.ntmps89
    go_wp2_with fail
    go_ret
    exact ⟨rfl, rfl⟩
  all_goals try (go_enter Try.func89, Try.ntmps89; go_wp2_with fail; go_ret; exact ⟨rfl, rfl⟩)
  · have e : nmB c = false := by unfold nmB; simp; omega
    have d0 : decide (48 ≤ c) = false := decide_eq_false (by omega)
    have d1 : (c == 43) = false := beq_eq_false_iff_ne.2 h1
    have d2 : (c == 45) = false := beq_eq_false_iff_ne.2 h2
    have d3 : (c == 46) = false := beq_eq_false_iff_ne.2 h3
    rw [e]
    clear e h1 h2 h3 h0
    go_enter Try.func89, Try.ntmps89
    go_wp2_with fail
    go_ret
    exact ⟨rfl, rfl⟩
  · have e : nmB c = false := by unfold nmB; simp; omega
    have d0 : decide (48 ≤ c) = true := decide_eq_true (by omega)
    have d4 : decide (c ≤ 57) = false := decide_eq_false (by omega)
    have d1 : (c == 43) = false := beq_eq_false_iff_ne.2 (by omega)
    have d2 : (c == 45) = false := beq_eq_false_iff_ne.2 (by omega)
    have d3 : (c == 46) = false := beq_eq_false_iff_ne.2 (by omega)
    rw [e]
    clear e h0
    go_enter Try.func89, Try.ntmps89
    go_wp2_with fail
    go_ret
    exact ⟨rfl, rfl⟩
/-- A kind of signs, as a function's value. -/
structure KindF (F : Nat) (K : Int → Bool) : Prop where
  out : K (-1) = false
  calls : ∀ (x : Int) (W : World), Calls Try.prog F #[.int .i64 x] W fun e w' => e = .returned (.bool (K x)) ∧ W = w'
  enter : ∀ (args : Array Value) (W : World), (callFunc F args).run Try.prog W = .ok (.enter F args) W
theorem whiteF : KindF 86 whB := ⟨rfl, fun x W => pwhite x W, fun _ _ => by kernel_rfl⟩
theorem commentF : KindF 88 cmB := ⟨rfl, fun x W => pcommentC x W, fun _ _ => by kernel_rfl⟩
theorem regularF : KindF 91 regB := ⟨rfl, fun x W => pregC x W, fun _ _ => by kernel_rfl⟩
abbrev fnV (F : Nat) : Value := .func (.func F) #[] #[]
set_option maxHeartbeats 1000000 in
theorem prowC {F : Nat} {K : Int → Bool} (hF : KindF F K) (h g n c p B : Nat) (A : Option Addr) (zs : List Int) (w : World) (hx : LX w h g A n c p) (hb : Byt w B A n c zs) (hn : n ≤ 1000000) :
    Calls Try.prog 108 #[.pointer (some ⟨h, 0, none⟩), fnV F] w fun e w' => e = .returned (.int .i64 ((rowZ K (zs.drop p) : Nat) : Int)) ∧ ∃ k, w' = w.drewN k := by
  have HX := Lib.hid hx
  have HB := Lib.hid hb
  have HF := Lib.hid hF
  have hcf := hF.enter
  have HL := Lib.hid hb.len
  have HP := Lib.hid hx.pl
  have HRL := Lib.hid (rowZ_le K (zs.drop p))
  have HPK := Lib.hid (fun (nq k : Nat) => peek_any g n c p B A zs (k : Int) (w.drewN nq) (hx.cu.drewN nq) (hb.drewN nq) hx.pl hn)
  clear hx hb hF
  go_enter Try.func108, Try.ntmps108
  go_wp2_with fail
  go_loopw [5] (fun i wr => ∃ (k nq : Nat), i = .int .i64 k ∧ Hid (k + rowZ K (zs.drop (p + k)) = rowZ K (zs.drop p)) ∧ Hid (k ≤ n) ∧ wr = w.drewN nq) (fun i _ => n + 1 - (intOf i).toNat)
  case atStart => exact ⟨0, 0, rfl, Lib.hid (by simp), Lib.hid (Nat.zero_le _), rfl⟩
  case round =>
    obtain ⟨k, nq, rfl, HK, HKN, rfl⟩ := hrel
    have k0 := (HX.out.drewN nq).k0
    have hkn : k ≤ 1000000 := by have := HKN.out; omega
    have HPKK := Lib.hid (HPK.out nq k)
    obtain ⟨y, hy⟩ : ∃ y, peekZ zs ((p + k : Nat) : Int) = y := ⟨_, rfl⟩
    have HPK2 : Hid (Calls Try.prog 87 #[.pointer (some ⟨g, 0, none⟩), .int .i64 k] (w.drewN nq) fun e w' => e = .returned (.int .i64 y) ∧ ∃ k, w' = (w.drewN nq).drewN k) := Lib.hid (by
      have := HPKK.out
      rw [show (p : Int) + (k : Int) = ((p + k : Nat) : Int) by omega, hy] at this
      exact this)
    have HC := Lib.hid (HF.out.calls y)
    have HY := Lib.hid hy
    clear hy HPKK
    rcases hk : K y with _ | _
    · rw [hk] at HC
      go_wp2_with (first
        | (go_at_call 87; refine HPK2.out.mono ?_; (rintro e w2 ⟨rfl, q2, rfl⟩))
        | ((with_reducible refine (HC.out _).mono ?_); (rintro e w3 ⟨rfl, rfl⟩)))
      go_ret
      refine ⟨?_, nq + q2, by rfl⟩
      have h1 := row_out K zs (p + k) (by rw [HY.out]; exact hk)
      have h2 := HK.out
      exact ret_int (by omega)
    · rw [hk] at HC
      have HIN := Lib.hid (row_in K HF.out.out zs (p + k) (by rw [HY.out]; exact hk))
      have hin : p + k < n := by have h1 := HIN.out.1; have h2 := HL.out; omega
      have HINN := Lib.hid hin
      clear hin
      go_wp2_with (first
        | (go_at_call 87; refine HPK2.out.mono ?_; (rintro e w2 ⟨rfl, q2, rfl⟩))
        | ((with_reducible refine (HC.out _).mono ?_); (rintro e w3 ⟨rfl, rfl⟩)))
      go_roundw
      case rel => exact ⟨k + 1, nq + q2, by go_num, Lib.hid (by have h1 := HIN.out.2; have h2 := HK.out; rw [← Nat.add_assoc]; omega), Lib.hid (by have := HINN.out; omega), by rfl⟩
      case measure => have := HINN.out; simp [intOf]; omega
set_option maxHeartbeats 1000000 in
theorem ppassC {F : Nat} {K : Int → Bool} (hF : KindF F K) (h g n c p B : Nat) (A : Option Addr) (zs : List Int) (w : World) (hx : LX w h g A n c p) (hb : Byt w B A n c zs) (hn : n ≤ 1000000) :
    Calls Try.prog 85 #[.pointer (some ⟨h, 0, none⟩), fnV F] w fun e w' => e = .returned (.tuple #[]) ∧ LX w' h g A n c (p + rowZ K (zs.drop p)) ∧ Only g w w' := by
  have HX := Lib.hid hx
  have hle : p + rowZ K (zs.drop p) ≤ n := by
    have := rowZ_le K (zs.drop p)
    rw [List.length_drop, hb.len] at this
    have := hx.pl
    omega
  have HPO := Lib.hid (fun nq => pos_any g n c p A (w.drewN nq) (hx.cu.drewN nq))
  have HRO := Lib.hid (fun nq => prowC hF h g n c p B A zs (w.drewN nq) (hx.drewN nq) (hb.drewN nq) hn)
  obtain ⟨m, hm⟩ : ∃ m, rowZ K (zs.drop p) = m := ⟨_, rfl⟩
  rw [hm] at HRO hle ⊢
  clear hm
  have HSK := Lib.hid (fun nq => seek_in g n c p (p + m) A (w.drewN nq) (hx.cu.drewN nq) hle hn)
  have ec : ((p + m : Nat) : Int) = (p : Int) + m := by omega
  rw [ec] at HSK
  have e1 : IntKind.i64.wrap ((p : Int) + m) = (p : Int) + m := IntWalk.i64_in _ (by omega)
  have HLE := Lib.hid hle
  have k0 := hx.k0
  clear hx hb hF ec hle
  go_enter Try.func85, Try.ntmps85
  go_upto_region 0 with fail
  refine wp_region_heldR (fun w' => w'.cell? ⟨h, 0, none⟩ = some (.pointer (some ⟨g, 0, none⟩))) 1000 (by kernel_rfl) k0 (fun hHeld => ?_)
  refine wpAnyR_take 0 rfl (by kernel_rfl) (by kernel_rfl) (by kernel_rfl) (by kernel_rfl) (fun _ _ _ h => h) (by rfl) (v := ?_) ?_ (by assumption) ?_
  rotate_left
  focus
    intro wS hSw
    (try dsimp only at hSw)
    go_simp
    (try simp only [hSw])
    try with_reducible rfl
  intro hHeld
  try simp only [Act.put, List.setIfInBounds_toArray, List.set_cons_zero, List.set_cons_succ]
  refine wpAnyR_take 1 rfl (by kernel_rfl) (by kernel_rfl) (by kernel_rfl) (by kernel_rfl) (fun _ _ _ h => h) (by rfl) (v := ?_) ?_ (by assumption) ?_
  rotate_left
  focus
    intro wS hSw
    (try dsimp only at hSw)
    go_simp
    (try simp only [hSw])
    try with_reducible rfl
  intro hHeld
  try simp only [Act.put, List.setIfInBounds_toArray, List.set_cons_zero, List.set_cons_succ]
  refine wpAnyR_take 2 rfl (by kernel_rfl) (by kernel_rfl) (by kernel_rfl) (by kernel_rfl) (fun _ _ _ h => h) (by rfl) (v := ?_) ?_ (by assumption) ?_
  rotate_left
  focus
    intro wS hSw
    (try dsimp only at hSw)
    go_simp
    (try simp only [hSw])
    try with_reducible rfl
  intro hHeld
  try simp only [Act.put, List.setIfInBounds_toArray, List.set_cons_zero, List.set_cons_succ]
  refine wpAnyR_take 3 rfl (by kernel_rfl) (by kernel_rfl) (by kernel_rfl) (by kernel_rfl) (fun _ _ _ h => h) (by rfl) (v := ?_) ?_ (by assumption) ?_
  rotate_left
  focus
    intro wS hSw
    (try dsimp only at hSw)
    go_simp
    (try simp only [hSw])
    try with_reducible rfl
  intro hHeld
  try simp only [Act.put, List.setIfInBounds_toArray, List.set_cons_zero, List.set_cons_succ]
  refine wpAnyR_take 4 rfl (by kernel_rfl) (by kernel_rfl) (by kernel_rfl) (by kernel_rfl) (fun _ _ _ h => h) (by rfl) (v := ?_) ?_ (by assumption) ?_
  rotate_left
  focus
    intro wS hSw
    (try dsimp only at hSw)
    go_simp
    (try simp only [hSw])
    try with_reducible rfl
  intro hHeld
  try simp only [Act.put, List.setIfInBounds_toArray, List.set_cons_zero, List.set_cons_succ]
  refine wpAnyR_take 5 rfl (by kernel_rfl) (by kernel_rfl) (by kernel_rfl) (by kernel_rfl) (fun _ _ _ h => h) (by rfl) (v := ?_) ?_ (by assumption) ?_
  rotate_left
  focus
    intro wS hSw
    (try dsimp only at hSw)
    go_simp
    (try simp only [hSw])
    try with_reducible rfl
  intro hHeld
  try simp only [Act.put, List.setIfInBounds_toArray, List.set_cons_zero, List.set_cons_succ]
  refine wpAnyR_take 6 rfl (by kernel_rfl) (by kernel_rfl) (by kernel_rfl) (by kernel_rfl) (fun _ _ _ h => h) (by rfl) (v := ?_) ?_ (by assumption) ?_
  rotate_left
  focus
    intro wS hSw
    (try dsimp only at hSw)
    go_simp
    (try simp only [hSw])
    try with_reducible rfl
  intro hHeld
  try simp only [Act.put, List.setIfInBounds_toArray, List.set_cons_zero, List.set_cons_succ]
  refine wpAnyR_take 7 rfl (by kernel_rfl) (by kernel_rfl) (by kernel_rfl) (by kernel_rfl) (fun _ _ _ h => h) (by rfl) (v := ?_) ?_ (by assumption) ?_
  rotate_left
  focus
    intro wS hSw
    (try dsimp only at hSw)
    go_simp
    (try simp only [hSw])
    try with_reducible rfl
  intro hHeld
  try simp only [Act.put, List.setIfInBounds_toArray, List.set_cons_zero, List.set_cons_succ]
  refine wpAnyR_take 9 rfl (by kernel_rfl) (by kernel_rfl) (by kernel_rfl) (by kernel_rfl) (fun _ _ _ h => h) (by rfl) (v := ?_) ?_ (by assumption) ?_
  rotate_left
  focus
    intro wS hSw
    (try dsimp only at hSw)
    go_simp
    (try simp only [hSw])
    try with_reducible rfl
  intro hHeld
  try simp only [Act.put, List.setIfInBounds_toArray, List.set_cons_zero, List.set_cons_succ]
  refine wpAnyR_take 10 rfl (by kernel_rfl) (by kernel_rfl) (by kernel_rfl) (by kernel_rfl) (fun _ _ _ h => h) (by rfl) (v := ?_) ?_ (by assumption) ?_
  rotate_left
  focus
    intro wS hSw
    (try dsimp only at hSw)
    go_simp
    (try simp only [hSw])
    try with_reducible rfl
  intro hHeld
  try simp only [Act.put, List.setIfInBounds_toArray, List.set_cons_zero, List.set_cons_succ]
  refine wpAnyR_step 8 rfl (by kernel_rfl) (fun K hK => ?_)
  go_simp
  go_at_call 61
  refine (HPO.out 1).mono ?_
  rintro e w2 ⟨rfl, rfl⟩
  refine hK.out _ _ (k0) (fun hHeld => ?_)
  clear hK K
  try simp only [Act.put, List.setIfInBounds_toArray, List.set_cons_zero, List.set_cons_succ]
  refine wpAnyR_step 11 rfl (by kernel_rfl) (fun K hK => ?_)
  go_simp
  go_at_call 108
  refine (HRO.out 1).mono ?_
  rintro e w3 ⟨rfl, q3, rfl⟩
  refine hK.out _ _ (k0) (fun hHeld => ?_)
  clear hK K
  try simp only [Act.put, List.setIfInBounds_toArray, List.set_cons_zero, List.set_cons_succ]
  refine wpAnyR_take 12 rfl (by kernel_rfl) (by kernel_rfl) (by kernel_rfl) (by kernel_rfl) (fun _ _ _ h => h) (by rfl) (v := ?_) ?_ (by assumption) ?_
  rotate_left
  focus
    intro wS hSw
    (try dsimp only at hSw)
    go_simp
    (try simp only [hSw])
    try with_reducible rfl
  intro hHeld
  try simp only [Act.put, List.setIfInBounds_toArray, List.set_cons_zero, List.set_cons_succ]
  refine wpAnyR_step 13 rfl (by kernel_rfl) (fun K hK => ?_)
  go_simp
  go_at_call 63
  refine (HSK.out (1 + q3)).mono ?_
  rintro e w4 ⟨rfl, hc4, ho4⟩
  have HC4 := Lib.hid hc4
  have HO4 := Lib.hid (((Only.refl g w).drewN (1 + q3)).trans ho4)
  clear hc4 ho4
  refine hK.out _ _ ((HX.out.moved HC4.out HO4.out HLE.out).k0) (fun hHeld => ?_)
  clear hK K
  try simp only [Act.put, List.setIfInBounds_toArray, List.set_cons_zero, List.set_cons_succ]
  refine wpAnyR_done (by kernel_rfl) ?_
  refine NoPanic.normal ?_
  go_wp2_with fail
  refine ⟨rfl, _, results_none rfl _ _ _, ?_⟩
  exact ⟨rfl, HX.out.moved HC4.out HO4.out HLE.out, HO4.out⟩
set_option maxHeartbeats 1000000 in
theorem pblankC (h g n c p B : Nat) (A : Option Addr) (zs : List Int) (w : World) (hx : LX w h g A n c p) (hb : Byt w B A n c zs) (hB : B ≤ g) (hn : n ≤ 1000000) :
    Calls Try.prog 60 #[.pointer (some ⟨h, 0, none⟩)] w fun e w' => e = .returned (.tuple #[]) ∧ LX w' h g A n c (blkP zs p) ∧ Only g w w' := by
  have HX := Lib.hid hx
  have HB := Lib.hid hb
  have HL := Lib.hid hb.len
  have HGW := Lib.hid (Nat.le_of_lt hx.cu.lt)
  have HPW := Lib.hid (fun W q (hW : LX W h g A n c q) (ho : Only g w W) => ppassC whiteF h g n c q B A zs W hW (HB.out.only ho hB HGW.out) hn)
  have HPC := Lib.hid (fun W q (hW : LX W h g A n c q) (ho : Only g w W) => ppassC commentF h g n c q B A zs W hW (HB.out.only ho hB HGW.out) hn)
  have HPK := Lib.hid (fun W q (hW : LX W h g A n c q) (ho : Only g w W) => peek_any g n c q B A zs 0 W hW.cu (HB.out.only ho hB HGW.out) hW.pl hn)
  clear hx hb
  go_enter Try.func60, Try.ntmps60
  go_wp2_with (go_at_call 85; refine (HPW.out _ _ HX.out (Only.refl _ _)).mono ?_; (rintro e w2 ⟨rfl, hx2, ho2⟩); have HX2 := Lib.hid hx2; have HO2 := Lib.hid ho2; clear hx2 ho2)
  go_loopg [] (n + 1) (fun gk wr => ∃ q : Nat, Hid (LX wr h g A n c q) ∧ Hid (Only g w wr) ∧ Hid (blkP zs p = blkP zs q) ∧ Hid (whB (peekZ zs (q : Int)) = false) ∧ Hid (n < gk + q))
  case atStart =>
    exact ⟨_, HX2, HO2, Lib.hid (blkP_row zs p), Lib.hid (row_stop whB rfl zs _ p rfl), Lib.hid (by omega)⟩
  case round =>
    obtain ⟨q, HXR, HOR, HE, HW, HG⟩ := hrel
    have k0 := HXR.out.k0
    have HPK2 := Lib.hid (HPK.out wr q HXR.out HOR.out)
    rw [Int.add_zero] at HPK2
    obtain ⟨y, hy⟩ : ∃ y, peekZ zs (q : Int) = y := ⟨_, rfl⟩
    rw [hy] at HPK2 HW
    have HY := Lib.hid hy
    clear hy
    by_cases h37 : y = 37
    · subst h37
      have HC := Lib.hid (blkP_cm zs q HB.out.rng HY.out)
      go_wp2_with (first
        | (go_at_call 87; refine HPK2.out.mono ?_; (rintro e w3 ⟨rfl, q3, rfl⟩))
        | (go_at_call 85; (with_reducible refine (HPC.out _ _ (HXR.out.drewN q3) (HOR.out.drewN q3)).mono ?_); (rintro e w4 ⟨rfl, hx4, ho4⟩); have HX4 := Lib.hid hx4; have HO4 := Lib.hid ((HOR.out.drewN q3).trans ho4); clear hx4 ho4)
        | (go_at_call 85; (with_reducible refine (HPW.out _ _ HX4.out HO4.out).mono ?_); (rintro e w5 ⟨rfl, hx5, ho5⟩); have HX5 := Lib.hid hx5; have HO5 := Lib.hid (HO4.out.trans ho5); clear hx5 ho5))
      go_roundg (gk - 1)
      case rel =>
        refine ⟨_, HX5, HO5, Lib.hid ?_, Lib.hid (row_stop whB rfl zs _ _ rfl), Lib.hid ?_⟩
        · rw [HE.out, HC.out.1]; exact blkP_row zs _
        · have h1 := HC.out.2; have h2 := HG.out; omega
      case measure => have h1 := HG.out; have h2 := HXR.out.pl; omega
    · have HN := Lib.hid h37
      go_wp2_with (first
        | (go_at_call 87; refine HPK2.out.mono ?_; (rintro e w3 ⟨rfl, q3, rfl⟩)))
      refine ⟨rfl, _, results_none rfl _ _ _, ?_⟩
      have he : blkP zs p = q := by rw [HE.out]; exact blkP_no zs q (by rw [HY.out]; exact HW.out) (by rw [HY.out]; exact HN.out)
      rw [he]
      exact ⟨rfl, HXR.out.drewN q3, HOR.out.drewN q3⟩
end
end Go.Proofs.Ytpomkhcobpihmaa
