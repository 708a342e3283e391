/- CursorPlays answers true, whatever the bytes and the deeds. No condition on the input. -/
import Derived.Test.YtffmdlknkimlhaaDoB
import Derived.Test.YtffmdlknkimlhaaOpen
namespace Go.Proofs.Ytffmdlknkimlhaa
open Go.ChangeShapes Go.WideShapes Go.ChangeAt Go.RowKit
set_option linter.unusedVariables false

/-- The slice '.slice A n c' holds n deeds below block B. -/
def Deeds (w : World) (B : Nat) (A : Option Addr) (n : Nat) (D M : Nat → Int) (S : Nat → ByteArray) : Prop :=
  0 < n → ∃ b o, A = some ⟨b, o, none⟩ ∧ b < B ∧ ∀ i, i < n → w.cell? ⟨b, o + i * 3, none⟩ = some (.int .i64 (D i)) ∧ w.cell? ⟨b, o + i * 3 + 1, none⟩ = some (.int .i64 (M i)) ∧ w.cell? ⟨b, o + i * 3 + 2, none⟩ = some (.string (S i)) ∧ (S i).size ≤ 9223372036854775807
theorem Deeds.below {w w' : World} {B : Nat} {A : Option Addr} {n : Nat} {D M : Nat → Int} {S : Nat → ByteArray} (h : Deeds w B A n D M S) (hb : Below B w w') : Deeds w' B A n D M S := fun hn => by
  obtain ⟨b, o, e, hlt, hc⟩ := h hn
  refine ⟨b, o, e, hlt, fun i hi => ?_⟩
  obtain ⟨h0, h1, h2, h3⟩ := hc i hi
  exact ⟨(hb.cell (p := ⟨b, o + i * 3, none⟩) hlt).trans h0, (hb.cell (p := ⟨b, o + i * 3 + 1, none⟩) hlt).trans h1, (hb.cell (p := ⟨b, o + i * 3 + 2, none⟩) hlt).trans h2, h3⟩

theorem new_cur (A : Option Addr) (n c : Nat) (w : World) :
    Calls Try.prog 9 #[.slice A n c] w fun e w' => e = .returned (.pointer (some ⟨w.heap.size, 0, none⟩)) ∧ Cur w' w.heap.size A n c 0 ∧ Below w.heap.size w w' :=
  (new_any A n c w).mono fun e w' ⟨he, hw⟩ => ⟨he, by rw [hw]; exact Cur.new w, by rw [hw]; exact (Below.refl _ _).alloc (Nat.le_refl _) _⟩

set_option maxHeartbeats 1000000 in
theorem plays_walk (A : Option Addr) (n c : Nat) (zs : List Int) (A2 : Option Addr) (ln c2 : Nat) (D M : Nat → Int) (S : Nat → ByteArray) (w : World) (hb : Byt w w.heap.size A n c zs) (hd : Deeds w w.heap.size A2 ln D M S) (hn : n ≤ 9223372036854775807) (hln : ln ≤ 9223372036854775807) :
    Calls Try.prog 4 #[.slice A n c, .slice A2 ln c2] w fun e w' => e = .returned (.bool true) ∧ Below w.heap.size w w' := by
  have HAW := Lib.hid (awake_any w)
  have HB := Lib.hid hb
  have HD := Lib.hid hd
  clear hb hd
  by_cases h1 : 500 < n
  · go_enter Try.func4, Try.ntmps4
    go_wp2_with (go_at_call 8; refine HAW.out.mono ?_; rintro e w1 ⟨rfl, hb1⟩)
    go_ret
    exact ⟨rfl, hb1⟩
  by_cases h2 : 100 < ln
  · go_enter Try.func4, Try.ntmps4
    go_wp2_with (go_at_call 8; refine HAW.out.mono ?_; rintro e w1 ⟨rfl, hb1⟩)
    go_ret
    exact ⟨rfl, hb1⟩
  go_enter Try.func4, Try.ntmps4
  go_wp2_with (first
    | (go_at_call 8; refine HAW.out.mono ?_; rintro e w1 ⟨rfl, hb1⟩)
    | (go_at_call 9; refine (new_cur A n c w1).mono ?_; rintro e w2 ⟨rfl, hcur, hbel2⟩))
  have HB2 := Lib.hid ((HB.out.below hb1 (Nat.le_refl _)).below (hbel2.mono hb1.size) (Nat.le_refl _))
  have HD2 := Lib.hid ((HD.out.below hb1).below (hbel2.mono hb1.size))
  have HBB := Lib.hid (hb1.trans (hbel2.mono hb1.size))
  have HS := Lib.hid hb1.size
  have HCU := Lib.hid hcur
  clear hbel2 hcur hb1
  go_loopw [6, 7] (fun at_ i wr => ∃ k p : Nat, k ≤ ln ∧ i = .int .i64 k ∧ at_ = .int .i64 p ∧ p ≤ n ∧ Cur wr w1.heap.size A n c p ∧ Only w1.heap.size w2 wr) (fun _ i _ => ln - (intOf i).toNat)
  case atStart => exact ⟨0, 0, Nat.zero_le _, rfl, rfl, Nat.zero_le _, HCU.out, Only.refl _ _⟩
  case round =>
    obtain ⟨k, p, hk, rfl, rfl, hp, hcur, honly⟩ := hrel
    have hg := HCU.out.lt
    by_cases hlt : k < ln
    · obtain ⟨b, o, rfl, _, hc⟩ := HD2.out.below ((honly.below (Nat.le_of_lt hg)).mono HS.out) (by omega)
      obtain ⟨x0, x1, x2, hsz⟩ := hc k hlt
      have hdo := do_any w1.heap.size n c p w.heap.size (D k) (M k) A zs (S k) wr hcur (HB2.out.only honly HS.out (Nat.le_of_lt hg)) HS.out hp (by omega) hsz
      obtain ⟨d, hdd⟩ : ∃ d, D k = d := ⟨_, rfl⟩
      obtain ⟨m, hmm⟩ : ∃ m, M k = m := ⟨_, rfl⟩
      obtain ⟨s, hss⟩ : ∃ s, S k = s := ⟨_, rfl⟩
      rw [hdd] at x0
      rw [hmm] at x1
      rw [hss] at x2
      rw [hdd, hmm, hss] at hdo
      have HDO := Lib.hid hdo
      have HON := Lib.hid honly
      clear hdd hmm hss hc hdo honly hcur hsz
      go_wp2_with (first
        | (go_at_call 15; refine HDO.out.mono ?_; rintro e w3 ⟨p', hp', rfl, hc3, ho3⟩)
        | (go_at_call 16; refine (pos_any _ _ _ _ _ _ hc3).mono ?_; rintro e w' ⟨rfl, rfl⟩)
        | (go_at_call 17; refine (len_any _ _ _ _ _ _ hc3).mono ?_; rintro e w' ⟨rfl, rfl⟩)
        | (go_at_call 18; refine (left_any _ _ _ _ _ _ hc3 hp' (by omega)).mono ?_; rintro e w' ⟨rfl, rfl⟩))
      go_roundw
      case rel => exact ⟨k + 1, p', by omega, by go_num, rfl, hp', hc3, HON.out.trans ho3⟩
      case measure => simp [intOf]; omega
    · have HON := Lib.hid honly
      clear honly hcur
      go_wp2
      go_ret
      exact ⟨rfl, HBB.out.trans ((HON.out.below (Nat.le_of_lt hg)).mono HS.out)⟩

set_option maxRecDepth 100000 in
theorem plays_lifted (os : Os) (started : os.Started) (H : Type) (enc : TypeId × Value → H) :
    ReturnsInHanded {} Try.checked os 4 .any (Rows.cursorPlaysSpec.pre6 enc Try.prog Try.f4 Rows.cursorPlaysRow.domain false) (Rows.cursorPlaysSpec.post enc Try.prog Try.f4 false true false false) := by
  refine returnsInHanded_of_change (C := Try.checked) own started (by kernel_rfl) Try.func4
    (ChangeSpec.witness6 (enc := enc) (C := Try.checked) false ⟨#[], #[.slice none 0 0, .slice none 0 0], []⟩ 8 (by kernel_rfl) (by kernel_rfl) (by kernel_rfl) (by kernel_rfl)) ?_
  intro W base args ds gs before hval0 hW hcnd _
  have hval : ∀ (j : Nat) t v, Try.f4.params[j]? = some t → args[j]? = some v → Value.okWide Try.prog W .any base t v := hval0
  have hW' := hW
  obtain ⟨p, q, hA0, hV, rfl, hfz, hnd⟩ := hW
  have hA : DataW.TrodAll enc Try.prog W 0 (fun _ => true) true Try.f4.params.toList args.toList ds p := hA0
  rw [Try.params4] at hA hval
  obtain ⟨v0, vs0, d0, ds0, p0, q0, hargs, rfl, rfl, h0, r0⟩ := trodAll_cons hA
  obtain ⟨v1, vs1, d1, ds1, p1, q1, rfl, rfl, rfl, h1, r1⟩ := trodAll_cons r0
  obtain ⟨rfl, rfl, rfl⟩ := trodAll_nil r1
  obtain rfl : args = #[v0, v1] := by cases args; simp_all
  obtain ⟨rfl, rfl⟩ := trodVars_none hV
  obtain ⟨a0, len0, cap0, rfl⟩ := okWide_slice Try.underlying25 (hval 0 25 v0 rfl rfl)
  have lt0 : ∀ x ∈ p0, x.block < W.heap.size := by obtain ⟨m, hm⟩ := h0; exact DataW.trod_lt m _ _ _ hm
  obtain ⟨zs, hz, hcm⟩ := open_bytes h0 (fun _ => rfl)
  obtain ⟨a1, len1, cap1, rfl⟩ := okWide_slice Try.underlying31 (hval 1 31 v1 rfl rfl)
  have lt1 : ∀ x ∈ p1, x.block < W.heap.size := by obtain ⟨m, hm⟩ := h1; exact DataW.trod_lt m _ _ _ hm
  obtain ⟨D, M, S, hln, hds⟩ := open_deeds h1 (fun _ => rfl)
  have hmx : maxLen = 9223372036854775807 := by decide
  have hln0 : len0 ≤ 9223372036854775807 := by have := hz.cap; omega
  clear hA0 hval0
  refine (plays_walk a0 len0 cap0 zs a1 len1 cap1 D M S W hz hds hln0 hln).mono fun e W' ⟨he, bel⟩ => ?_
  subst he
  exact ⟨_, rfl, _, _, _, [], _, [], hW', trodAll_mk1 (shut_bool Try.underlying4 _), (trodAll_cons_mk (Below.trod laidOut (by kernel_rfl) (of_decide_eq_true (by kernel_rfl)) h0 bel lt0) (trodAll_cons_mk (Below.trod laidOut (by kernel_rfl) (of_decide_eq_true (by kernel_rfl)) h1 bel lt1) trodAll_mk0)), rfl, bel.frame _, fun h => by cases h⟩

/-- CursorPlays: it answers true, whatever the bytes and the deeds. -/
theorem plays_holds : Rows.CursorPlaysSaid :=
  OpenClaim.holds_of_wide 4 Try.f4 rfl rfl rfl rfl rfl rfl rfl ⟨rfl, rfl, rfl, rfl, rfl⟩ rfl rfl rfl rfl rfl (by kernel_rfl) Try.func4 (by kernel_rfl)
    (of_decide_eq_true (by kernel_rfl)) (by unfold Func.isWrapper; first | (rw [if_pos (by decide +kernel)]; kernel_rfl) | (rw [if_neg (by decide +kernel)]; exact ⟨rfl, rfl⟩))
    (fun os started H enc _ => plays_lifted os started H enc)
#print axioms plays_holds
end Go.Proofs.Ytffmdlknkimlhaa
