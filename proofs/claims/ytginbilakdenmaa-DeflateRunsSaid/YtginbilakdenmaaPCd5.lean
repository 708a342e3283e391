/- Chapter 5, the project's own writer: codes (Reverse16, code, symbol, Len, length, distance). -/
import Derived.Test.YtginbilakdenmaaPStr5
import Derived.Lib.Tables
namespace Go.Proofs.Ytginbilakdenmaa
open Go.RowKit
set_option linter.unusedVariables false
set_option maxRecDepth 100000

theorem and255 : ∀ x : Fin 512, bits .and .u16 (x.val : Int) 255 = (x.val : Int) % 256 := by decide +kernel
def rev16S (x : Int) : Int := bits .or .u16 (IntKind.u16.wrap (Lib.rev8 (x / 256))) (IntKind.u16.wrap (IntKind.u16.wrap (Lib.rev8 (x % 256)) * 256))
theorem rev16C (x R : Int) (x0 : 0 ≤ x) (x1 : x < 512) (hR : rev16S x = R) (w : World) :
    Calls Try.prog 60 #[.int .u16 x] w fun r w' => r = .returned (.int .u16 R) ∧ ∃ k, w' = w.drewN k := by
  have hx : x / 256 ≤ 255 := by omega
  have hx0 : 0 ≤ x / 256 := by omega
  have ha : bits .and .u16 x 255 = x % 256 := by
    have := and255 ⟨x.toNat, by omega⟩
    dsimp only at this
    rw [Int.toNat_of_nonneg x0] at this
    exact this
  subst hR
  go_enter Try.func60, Try.ntmps60
  go_upto_region 1 with fail
  go_quiet (fail)
  go_wp2_with fail
  go_ret
  exact ⟨rfl, nq, rfl⟩
theorem len8_bd : ∀ x : Fin 256, 0 ≤ Lib.len8 (x.val : Int) ∧ Lib.len8 (x.val : Int) ≤ 8 := by decide +kernel
theorem len64C (x : Int) (x0 : 0 ≤ x) (x1 : x < 256) (w : World) :
    Calls Try.prog 62 #[.int .u64 x] w fun r w' => r = .returned (.int .i64 (Lib.len8 x)) ∧ w' = w := by
  have h32 : ¬ (4294967296 ≤ x) := by omega
  have h16 : ¬ (65536 ≤ x) := by omega
  have h8 : ¬ (256 ≤ x) := by omega
  have hx : x ≤ 255 := by omega
  have hb : 0 ≤ Lib.len8 x ∧ Lib.len8 x ≤ 8 := by
    have := len8_bd ⟨x.toNat, by omega⟩
    dsimp only at this
    rw [Int.toNat_of_nonneg x0] at this
    exact this
  have hw : wrap64 (Lib.len8 x) = Lib.len8 x := by unfold wrap64; omega
  go_enter Try.func62, Try.ntmps62
  go_wp2_with fail
  go_ret
  refine ⟨?_, rfl⟩
  show Ending.returned (.int .i64 _) = _
  simp only
theorem blenC (x : Int) (x0 : 0 ≤ x) (x1 : x < 256) (w : World) :
    Calls Try.prog 51 #[.int .u64 x] w fun r w' => r = .returned (.int .i64 (Lib.len8 x)) ∧ w' = w := by
  have H := Lib.hid (fun W => len64C x x0 x1 W)
  go_enter Try.func51, Try.ntmps51
  go_wp2_with (go_at_call 62; refine (H.out _).mono ?_; (rintro r w1 ⟨rfl, rfl⟩))
  go_ret
  exact ⟨rfl, rfl⟩
theorem rev_code5 : ∀ n : Fin 32, lowb (rev16S (n.val : Int) / 2048) 5 = highb (n.val : Int) 5 ∧ 0 ≤ rev16S (n.val : Int) ∧ rev16S (n.val : Int) ≤ 65535 := by decide +kernel
set_option maxHeartbeats 1000000 in
theorem code5C (g : Nat) (T : TypeId) (bs : List Nat) (L : List Int) (n : Int) (w : World) (h : PW w g T bs L) (hL : L.length ≤ 690000000) (n0 : 0 ≤ n) (n1 : n < 32) :
    Calls Try.prog 50 #[.pointer (some ⟨g, 0, none⟩), .int .i64 n, .int .i64 5] w (Wrote g T bs (L ++ highb n 5) w) := by
  have hr := rev_code5 ⟨n.toNat, by omega⟩
  dsimp only at hr
  rw [Int.toNat_of_nonneg n0] at hr
  obtain ⟨R, hR⟩ : ∃ R, rev16S n = R := ⟨_, rfl⟩
  rw [hR] at hr
  obtain ⟨hb, r0, r1⟩ := hr
  have HREV := Lib.hid (fun W => rev16C n R n0 (by omega) hR W)
  obtain ⟨V, hV⟩ : ∃ V, R / 2048 = V := ⟨_, rfl⟩
  have v0 : 0 ≤ V ∧ V ≤ 65535 := by omega
  rw [hV] at hb
  have hp := fun j => put_in5 g T bs L V 5 (w.drewN j) (h.drewN j) (by omega) (by omega) (by omega) (by omega) 5 rfl
  rw [hb] at hp
  have HP := Lib.hid hp
  have hwV : IntKind.i64.wrap V = V := IntWalk.i64_in _ (by omega)
  have hwn : IntKind.u16.wrap n = n := by rw [IntKind.wrap_u16]; omega
  have hw16 : IntKind.i64.wrap 11 = 11 := by decide
  clear hb hR hp h
  go_enter Try.func50, Try.ntmps50
  go_region_with (first
    | (go_at_call 60; refine (HREV.out _).mono ?_; (rintro r w1 ⟨rfl, j, rfl⟩))
    | (go_at_call 10; refine (HP.out _).mono ?_; (rintro r w3 ⟨rfl, bs3, hp3, ho3, hb3⟩); have HW3 := Lib.hid hp3; have HO3 := Lib.hid (((Only.refl g w).drewN _).trans ho3); have HB3 := Lib.hid hb3; clear hp3 ho3 hb3))
  all_goals
    go_wp2_with fail
    (try simp only [Exit.inBlock, Exit.then])
    refine ⟨rfl, _, results_none rfl _ _ _, ?_⟩
    exact ⟨rfl, bs3, HW3.out, HO3.out, HB3.out⟩
theorem rev_code7 : ∀ n : Fin 128, lowb (rev16S (n.val : Int) / 512) 7 = highb (n.val : Int) 7 ∧ 0 ≤ rev16S (n.val : Int) ∧ rev16S (n.val : Int) ≤ 65535 := by decide +kernel
set_option maxHeartbeats 1000000 in
theorem code7C (g : Nat) (T : TypeId) (bs : List Nat) (L : List Int) (n : Int) (w : World) (h : PW w g T bs L) (hL : L.length ≤ 690000000) (n0 : 0 ≤ n) (n1 : n < 128) :
    Calls Try.prog 50 #[.pointer (some ⟨g, 0, none⟩), .int .i64 n, .int .i64 7] w (Wrote g T bs (L ++ highb n 7) w) := by
  have hr := rev_code7 ⟨n.toNat, by omega⟩
  dsimp only at hr
  rw [Int.toNat_of_nonneg n0] at hr
  obtain ⟨R, hR⟩ : ∃ R, rev16S n = R := ⟨_, rfl⟩
  rw [hR] at hr
  obtain ⟨hb, r0, r1⟩ := hr
  have HREV := Lib.hid (fun W => rev16C n R n0 (by omega) hR W)
  obtain ⟨V, hV⟩ : ∃ V, R / 512 = V := ⟨_, rfl⟩
  have v0 : 0 ≤ V ∧ V ≤ 65535 := by omega
  rw [hV] at hb
  have hp := fun j => put_in5 g T bs L V 7 (w.drewN j) (h.drewN j) (by omega) (by omega) (by omega) (by omega) 7 rfl
  rw [hb] at hp
  have HP := Lib.hid hp
  have hwV : IntKind.i64.wrap V = V := IntWalk.i64_in _ (by omega)
  have hwn : IntKind.u16.wrap n = n := by rw [IntKind.wrap_u16]; omega
  have hw16 : IntKind.i64.wrap 9 = 9 := by decide
  clear hb hR hp h
  go_enter Try.func50, Try.ntmps50
  go_region_with (first
    | (go_at_call 60; refine (HREV.out _).mono ?_; (rintro r w1 ⟨rfl, j, rfl⟩))
    | (go_at_call 10; refine (HP.out _).mono ?_; (rintro r w3 ⟨rfl, bs3, hp3, ho3, hb3⟩); have HW3 := Lib.hid hp3; have HO3 := Lib.hid (((Only.refl g w).drewN _).trans ho3); have HB3 := Lib.hid hb3; clear hp3 ho3 hb3))
  all_goals
    go_wp2_with fail
    (try simp only [Exit.inBlock, Exit.then])
    refine ⟨rfl, _, results_none rfl _ _ _, ?_⟩
    exact ⟨rfl, bs3, HW3.out, HO3.out, HB3.out⟩
theorem rev_code8 : ∀ n : Fin 256, lowb (rev16S (n.val : Int) / 256) 8 = highb (n.val : Int) 8 ∧ 0 ≤ rev16S (n.val : Int) ∧ rev16S (n.val : Int) ≤ 65535 := by decide +kernel
set_option maxHeartbeats 1000000 in
theorem code8C (g : Nat) (T : TypeId) (bs : List Nat) (L : List Int) (n : Int) (w : World) (h : PW w g T bs L) (hL : L.length ≤ 690000000) (n0 : 0 ≤ n) (n1 : n < 256) :
    Calls Try.prog 50 #[.pointer (some ⟨g, 0, none⟩), .int .i64 n, .int .i64 8] w (Wrote g T bs (L ++ highb n 8) w) := by
  have hr := rev_code8 ⟨n.toNat, by omega⟩
  dsimp only at hr
  rw [Int.toNat_of_nonneg n0] at hr
  obtain ⟨R, hR⟩ : ∃ R, rev16S n = R := ⟨_, rfl⟩
  rw [hR] at hr
  obtain ⟨hb, r0, r1⟩ := hr
  have HREV := Lib.hid (fun W => rev16C n R n0 (by omega) hR W)
  obtain ⟨V, hV⟩ : ∃ V, R / 256 = V := ⟨_, rfl⟩
  have v0 : 0 ≤ V ∧ V ≤ 65535 := by omega
  rw [hV] at hb
  have hp := fun j => put_in5 g T bs L V 8 (w.drewN j) (h.drewN j) (by omega) (by omega) (by omega) (by omega) 8 rfl
  rw [hb] at hp
  have HP := Lib.hid hp
  have hwV : IntKind.i64.wrap V = V := IntWalk.i64_in _ (by omega)
  have hwn : IntKind.u16.wrap n = n := by rw [IntKind.wrap_u16]; omega
  have hw16 : IntKind.i64.wrap 8 = 8 := by decide
  clear hb hR hp h
  go_enter Try.func50, Try.ntmps50
  go_region_with (first
    | (go_at_call 60; refine (HREV.out _).mono ?_; (rintro r w1 ⟨rfl, j, rfl⟩))
    | (go_at_call 10; refine (HP.out _).mono ?_; (rintro r w3 ⟨rfl, bs3, hp3, ho3, hb3⟩); have HW3 := Lib.hid hp3; have HO3 := Lib.hid (((Only.refl g w).drewN _).trans ho3); have HB3 := Lib.hid hb3; clear hp3 ho3 hb3))
  all_goals
    go_wp2_with fail
    (try simp only [Exit.inBlock, Exit.then])
    refine ⟨rfl, _, results_none rfl _ _ _, ?_⟩
    exact ⟨rfl, bs3, HW3.out, HO3.out, HB3.out⟩
theorem rev_code9 : ∀ n : Fin 512, lowb (rev16S (n.val : Int) / 128) 9 = highb (n.val : Int) 9 ∧ 0 ≤ rev16S (n.val : Int) ∧ rev16S (n.val : Int) ≤ 65535 := by decide +kernel
set_option maxHeartbeats 1000000 in
theorem code9C (g : Nat) (T : TypeId) (bs : List Nat) (L : List Int) (n : Int) (w : World) (h : PW w g T bs L) (hL : L.length ≤ 690000000) (n0 : 0 ≤ n) (n1 : n < 512) :
    Calls Try.prog 50 #[.pointer (some ⟨g, 0, none⟩), .int .i64 n, .int .i64 9] w (Wrote g T bs (L ++ highb n 9) w) := by
  have hr := rev_code9 ⟨n.toNat, by omega⟩
  dsimp only at hr
  rw [Int.toNat_of_nonneg n0] at hr
  obtain ⟨R, hR⟩ : ∃ R, rev16S n = R := ⟨_, rfl⟩
  rw [hR] at hr
  obtain ⟨hb, r0, r1⟩ := hr
  have HREV := Lib.hid (fun W => rev16C n R n0 (by omega) hR W)
  obtain ⟨V, hV⟩ : ∃ V, R / 128 = V := ⟨_, rfl⟩
  have v0 : 0 ≤ V ∧ V ≤ 65535 := by omega
  rw [hV] at hb
  have hp := fun j => put_in5 g T bs L V 9 (w.drewN j) (h.drewN j) (by omega) (by omega) (by omega) (by omega) 9 rfl
  rw [hb] at hp
  have HP := Lib.hid hp
  have hwV : IntKind.i64.wrap V = V := IntWalk.i64_in _ (by omega)
  have hwn : IntKind.u16.wrap n = n := by rw [IntKind.wrap_u16]; omega
  have hw16 : IntKind.i64.wrap 7 = 7 := by decide
  clear hb hR hp h
  go_enter Try.func50, Try.ntmps50
  go_region_with (first
    | (go_at_call 60; refine (HREV.out _).mono ?_; (rintro r w1 ⟨rfl, j, rfl⟩))
    | (go_at_call 10; refine (HP.out _).mono ?_; (rintro r w3 ⟨rfl, bs3, hp3, ho3, hb3⟩); have HW3 := Lib.hid hp3; have HO3 := Lib.hid (((Only.refl g w).drewN _).trans ho3); have HB3 := Lib.hid hb3; clear hp3 ho3 hb3))
  all_goals
    go_wp2_with fail
    (try simp only [Exit.inBlock, Exit.then])
    refine ⟨rfl, _, results_none rfl _ _ _, ?_⟩
    exact ⟨rfl, bs3, HW3.out, HO3.out, HB3.out⟩
end Go.Proofs.Ytginbilakdenmaa
