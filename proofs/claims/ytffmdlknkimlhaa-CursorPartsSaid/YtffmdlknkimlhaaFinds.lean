/- CursorFinds answers true, whatever the bytes, the text and the place. No condition on the input. -/
import Derived.Test.YtffmdlknkimlhaaFind
import Derived.Test.YtffmdlknkimlhaaCurE
import Derived.Test.YtffmdlknkimlhaaOpen
import Derived.HandedShaped
namespace Go.Proofs.Ytffmdlknkimlhaa
open Go.ChangeShapes Go.WideShapes Go.ChangeAt Go.RowKit
open Go.ChangeMaps (open_string shut_string)
set_option linter.unusedVariables false

set_option maxHeartbeats 1000000 in
theorem finds_walk (A : Option Addr) (n c : Nat) (zs : List Int) (s : ByteArray) (from_ m : Int) (w : World) (hb : Byt w w.heap.size A n c zs) (hA : A = none → c = 0) (hn : n ≤ 9223372036854775807) (hs : s.size ≤ 9223372036854775807)
    (hf0 : -9223372036854775808 ≤ from_) (hf1 : from_ ≤ 9223372036854775807) (hm : w.cell? ⟨0, 0, none⟩ = some (.int .i64 m)) :
    Calls Try.prog 5 #[.slice A n c, .string s, .int .i64 from_] w fun e w' => e = .returned (.bool true) ∧ Below w.heap.size w w' := by
  have HAW := Lib.hid (awake_any w)
  have HB := Lib.hid hb
  have HM := Lib.hid hm
  have HA := Lib.hid hA
  clear hb hm hA
  by_cases h1 : 1000 < n
  · go_enter Try.func5, Try.ntmps5
    go_wp2_with (go_at_call 8; refine HAW.out.mono ?_; rintro e w1 ⟨rfl, hb1⟩)
    go_ret
    exact ⟨rfl, hb1⟩
  by_cases h2 : 100 < s.size
  · go_enter Try.func5, Try.ntmps5
    go_wp2_with (go_at_call 8; refine HAW.out.mono ?_; rintro e w1 ⟨rfl, hb1⟩)
    go_ret
    exact ⟨rfl, hb1⟩
  obtain ⟨f, hf⟩ : ∃ f : Nat, f = from_.toNat := ⟨_, rfl⟩
  have hfr : from_ = f ∨ (from_ < 0 ∧ f = 0) := by omega
  have hf2 : f ≤ 9223372036854775807 := by omega
  have HFR := Lib.hid hfr
  obtain ⟨v, hv⟩ : ∃ v, firstZ (Lib.bytesOf zs) s.data.toList f = v := ⟨_, rfl⟩
  obtain ⟨u, hu⟩ : ∃ u, Lib.lastIndex (Lib.bytesOf zs) s.data.toList = u := ⟨_, rfl⟩
  have HV := Lib.hid hv
  have HU := Lib.hid hu
  clear hf hfr hv hu
  go_enter Try.func5, Try.ntmps5
  go_wp2_with (first
    | (go_at_call 8; refine HAW.out.mono ?_; rintro e w1 ⟨rfl, hb1⟩; have hy1 := HB.out.below hb1 (Nat.le_refl _); have hm1 := (hb1.cell (p := ⟨0, 0, none⟩) (cell_lt HM.out)).trans HM.out)
    | (go_at_call 13; refine (find_nat A n c _ zs s f m w1 hy1 hb1.size HA.out (by omega) (by omega) hf2 from_ HFR.out hm1).mono ?_; rw [HV.out]; rintro e w2 ⟨rfl, hb2⟩; have hy2 := hy1.below hb2 hb1.size)
    | (go_at_call 19; refine (refFind_nat A n c _ zs s f w2 hy2 (by omega) (by omega) hf2 from_ HFR.out).mono ?_; rw [HV.out]; rintro e w' ⟨rfl, rfl⟩)
    | (go_at_call 14; refine (last_any A n c _ zs s w2 hy2 (Nat.le_trans hb1.size hb2.size) (by omega) (by omega)).mono ?_; rw [HU.out]; rintro e w3 ⟨rfl, hb3⟩; have hy3 := hy2.below hb3 (Nat.le_trans hb1.size hb2.size))
    | (go_at_call 20; refine (refLast_any A n c _ zs s w3 hy3 (by omega) (by omega)).mono ?_; rw [HU.out]; rintro e w' ⟨rfl, rfl⟩))
  go_ret
  exact ⟨ret_bool (by simp), (hb1.trans (hb2.mono hb1.size)).trans (hb3.mono (Nat.le_trans hb1.size hb2.size))⟩

theorem open_nil {H : Type} {enc : TypeId × Value → H} {W : World} {base : Nat} {sp : Nat → Bool} {held : Bool} {A : Option Addr} {len cap : Nat} {d : DataW H} {p : List MemPlace}
    (h : DataW.Trod enc Try.prog W base sp held 25 (.slice A len cap) d p) : A = none → cap = 0 := by
  obtain ⟨fuel, hf⟩ := h
  rcases open_ints Try.underlying25 Try.underlying5 (by kernel_rfl) hf with ⟨hcs, _⟩ | ⟨x, l, c, zs, hcs, _⟩
  · simp [Value.cells] at hcs
    obtain ⟨rfl, rfl, rfl⟩ := hcs
    exact fun _ => rfl
  · simp [Value.cells] at hcs
    obtain ⟨rfl, rfl, rfl⟩ := hcs
    exact fun h => by cases h

theorem i64_wf {x : Int} (h : (Lit.int .i64 x).wf = true) : -9223372036854775808 ≤ x ∧ x ≤ 9223372036854775807 := by
  simp [Lit.wf] at h
  have e1 : IntKind.i64.min = -9223372036854775808 := by decide
  have e2 : IntKind.i64.max = 9223372036854775807 := by decide
  omega

set_option maxRecDepth 100000 in
theorem finds_lifted (os : Os) (started : os.Started) (H : Type) (enc : TypeId × Value → H) :
    ReturnsInHanded {} Try.checked os 5 .any (Rows.cursorFindsSpec.pre6 enc Try.prog Try.f5 Rows.cursorFindsRow.domain false) (Rows.cursorFindsSpec.post enc Try.prog Try.f5 false true false false) := by
  refine returnsInHanded_of_change_shaped (C := Try.checked) own started (by kernel_rfl) Try.func5
    (ChangeSpec.witness6 (enc := enc) (C := Try.checked) false ⟨#[], #[.slice none 0 0, .string ByteArray.empty, .int .i64 0], []⟩ 8 (by kernel_rfl) (by kernel_rfl) (by kernel_rfl) (by kernel_rfl)) ?_
  intro W base args ds gs before hval0 hW hcnd _ hsh _
  have hval : ∀ (j : Nat) t v, Try.f5.params[j]? = some t → args[j]? = some v → Value.okWide Try.prog W .any base t v := hval0
  have hW' := hW
  obtain ⟨p, q, hA0, hV, rfl, hfz, hnd⟩ := hW
  have hA : DataW.TrodAll enc Try.prog W 0 (fun _ => true) true Try.f5.params.toList args.toList ds p := hA0
  rw [Try.params5] at hA hval
  obtain ⟨v0, vs0, d0, ds0, p0, q0, hargs, rfl, rfl, h0, r0⟩ := trodAll_cons hA
  obtain ⟨v1, vs1, d1, ds1, p1, q1, rfl, rfl, rfl, h1, r1⟩ := trodAll_cons r0
  obtain ⟨v2, vs2, d2, ds2, p2, q2, rfl, rfl, rfl, h2, r2⟩ := trodAll_cons r1
  obtain ⟨rfl, rfl, rfl⟩ := trodAll_nil r2
  obtain rfl : args = #[v0, v1, v2] := by cases args; simp_all
  obtain ⟨rfl, rfl⟩ := trodVars_none hV
  obtain ⟨a0, len0, cap0, rfl⟩ := okWide_slice Try.underlying25 (hval 0 25 v0 rfl rfl)
  have lt0 : ∀ x ∈ p0, x.block < W.heap.size := by obtain ⟨m, hm⟩ := h0; exact DataW.trod_lt m _ _ _ hm
  obtain ⟨zs, hz, hcm⟩ := open_bytes h0 (fun _ => rfl)
  have hnil := open_nil h0
  obtain ⟨a1, rfl, rfl, rfl, w1⟩ := open_string Try.underlying9 (hval 1 9 v1 rfl rfl) h1
  obtain ⟨a2, rfl, rfl, rfl, w2⟩ := open_int Try.underlying3 (hval 2 3 v2 rfl rfl) h2
  have hmx : maxLen = 9223372036854775807 := by decide
  have hln0 : len0 ≤ 9223372036854775807 := by have := hz.cap; omega
  obtain ⟨m, hm⟩ := Try.laysM185.s1_3 W hsh
  have hm' : W.cell? ⟨0, 0, none⟩ = some (.int .i64 m) := hm
  have hi := i64_wf w2
  clear hA0 hval0
  refine (finds_walk a0 len0 cap0 zs a1 a2 m W hz hnil hln0 (by omega) hi.1 hi.2 hm').mono fun e W' ⟨he, bel⟩ => ?_
  subst he
  exact ⟨_, rfl, _, _, _, [], _, [], hW', trodAll_mk1 (shut_bool Try.underlying4 _), (trodAll_cons_mk (Below.trod laidOut (by kernel_rfl) (of_decide_eq_true (by kernel_rfl)) h0 bel lt0) (trodAll_cons_mk (shut_string Try.underlying9 w1) (trodAll_cons_mk (shut_int Try.underlying3 w2) trodAll_mk0))), rfl, bel.frame _, fun h => by cases h⟩

/-- CursorFinds: it answers true, whatever the bytes, the text and the place. -/
theorem finds_holds : Rows.CursorFindsSaid :=
  OpenClaim.holds_of_wide 5 Try.f5 rfl rfl rfl rfl rfl rfl rfl ⟨rfl, rfl, rfl, rfl, rfl⟩ rfl rfl rfl rfl rfl (by kernel_rfl) Try.func5 (by kernel_rfl)
    (of_decide_eq_true (by kernel_rfl)) (by unfold Func.isWrapper; first | (rw [if_pos (by decide +kernel)]; kernel_rfl) | (rw [if_neg (by decide +kernel)]; exact ⟨rfl, rfl⟩))
    (fun os started H enc _ => finds_lifted os started H enc)
#print axioms finds_holds
end Go.Proofs.Ytffmdlknkimlhaa
