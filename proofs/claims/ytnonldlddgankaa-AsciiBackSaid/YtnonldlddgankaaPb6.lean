/- Chapter 6, the program's own Unbase85. -/
import Derived.Test.YtnonldlddgankaaPh6
import Derived.Test.YtnonldlddgankaaRb6
namespace Go.Proofs.Ytnonldlddgankaa
open Go.RowKit
set_option linter.unusedVariables false
set_option maxRecDepth 100000

/-- The number of the digits of a group. -/
def vP (g : List Int) : Int := g.foldl (fun a d => a * 85 + d) 0
theorem vP_snoc (g : List Int) (d : Int) : vP (g ++ [d]) = vP g * 85 + d := by simp [vP]
theorem vP_bd (g : List Int) (h : ∀ d ∈ g, 0 ≤ d ∧ d ≤ 84) : g.length ≤ 5 → 0 ≤ vP g ∧ vP g ≤ 4437053124 := by
  intro hl
  match g, hl with
  | [], _ => decide
  | [a], _ =>
    have := h a (by simp)
    simp [vP]; omega
  | [a, b], _ =>
    have := h a (by simp)
    have := h b (by simp)
    simp [vP]; omega
  | [a, b, c], _ =>
    have := h a (by simp)
    have := h b (by simp)
    have := h c (by simp)
    simp [vP]; omega
  | [a, b, c, d], _ =>
    have := h a (by simp)
    have := h b (by simp)
    have := h c (by simp)
    have := h d (by simp)
    simp [vP]; omega
  | [a, b, c, d, e], _ =>
    have := h a (by simp)
    have := h b (by simp)
    have := h c (by simp)
    have := h d (by simp)
    have := h e (by simp)
    simp [vP]; omega
theorem vP_pad (g : List Int) (hl : g.length ≤ 5) : vP (g ++ List.replicate (5 - g.length) 84) = v85 g := by
  match g, hl with
  | [], _ => decide
  | [a], _ => simp [vP, v85, List.replicate]
  | [a, b], _ => simp [vP, v85, List.replicate]
  | [a, b, c], _ => simp [vP, v85, List.replicate]
  | [a, b, c, d], _ => simp [vP, v85]
  | [a, b, c, d, e], _ => simp [vP, v85]
theorem vP5 (g : List Int) (hl : g.length = 5) : vP g = v85 g := by
  have := vP_pad g (by omega)
  rw [hl] at this
  simpa using this
/-- What a sign does to a group that was begun: what is wrong, the digits then, what came then. -/
def gdP (M : Nat) (g o : List Int) (x : Int) : Int × List Int × List Int :=
  if x < 0 then (2, g, o)
  else if x = 122 ∧ g.length = 0 then (if M < o.length + 4 then (7, g, o) else (0, [], o ++ [0, 0, 0, 0]))
  else if x < 33 ∨ 117 < x then (4, g, o)
  else if g.length = 4 then ((grpR M (g ++ [x - 33]) o).2, [], (grpR M (g ++ [x - 33]) o).1)
  else (0, g ++ [x - 33], o)
theorem u85_step (M : Nat) (x : Int) (cs g o : List Int) (hx : 0 ≤ x) (hw : whB x = false) (h126 : ¬ x = 126) : u85R M (x :: cs) g o = if (gdP M g o x).1 = 0 then u85R M cs (gdP M g o x).2.1 (gdP M g o x).2.2 else ([], (gdP M g o x).1) := by
  rw [u85R, hw, if_neg (by decide), if_neg h126]
  have hx0 : ¬ x < 0 := by omega
  by_cases h1 : x = 122 ∧ g.length = 0
  · rw [if_pos h1]
    by_cases h2 : M < o.length + 4
    · have e : gdP M g o x = (7, g, o) := by unfold gdP; rw [if_neg hx0, if_pos h1, if_pos h2]
      rw [e, if_pos h2]; rfl
    · have e : gdP M g o x = (0, [], o ++ [0, 0, 0, 0]) := by unfold gdP; rw [if_neg hx0, if_pos h1, if_neg h2]
      rw [e, if_neg h2]; rfl
  · rw [if_neg h1]
    by_cases h2 : x < 33 ∨ 117 < x
    · have e : gdP M g o x = (4, g, o) := by unfold gdP; rw [if_neg hx0, if_neg h1, if_pos h2]
      rw [e, if_pos h2]; rfl
    · rw [if_neg h2]
      by_cases h3 : g.length = 4
      · have e : gdP M g o x = ((grpR M (g ++ [x - 33]) o).2, [], (grpR M (g ++ [x - 33]) o).1) := by unfold gdP; rw [if_neg hx0, if_neg h1, if_neg h2, if_pos h3]
        rw [e, if_pos h3]
      · have e : gdP M g o x = (0, g ++ [x - 33], o) := by unfold gdP; rw [if_neg hx0, if_neg h1, if_neg h2, if_neg h3]
        rw [e, if_neg h3]; rfl

/-- What came, a group that was begun. -/
def GD (w : World) (base kp kc : Nat) (A : Option Addr) (n c p : Nat) (M : Nat) (g out : List Int) : Prop := (∃ v, RD w base kp kc 48 A n c p v out M (.int .i64 (vP g)) (.int .i64 (g.length : Nat))) ∧ ∀ d ∈ g, 0 ≤ d ∧ d ≤ 84
theorem gadd (base kp kc n c p M : Nat) (A : Option Addr) (v : Value) (g out : List Int) (x : Int) (w : World) (h : RD w base kp kc 48 A n c p v out M (.int .i64 (vP g)) (.int .i64 (g.length : Nat))) (hd : ∀ d ∈ g, 0 ≤ d ∧ d ≤ 84) (hl : g.length ≤ 4) (x0 : 33 ≤ x) (x1 : x ≤ 117) :
    Calls Try.prog 44 #[.pointer (some ⟨kp, 0, none⟩), .int .i64 x] w fun r w' => r = .returned (.tuple #[]) ∧ RD w' base kp kc 48 A n c p v out M (.int .i64 (vP (g ++ [x - 33]))) (.int .i64 ((g ++ [x - 33]).length : Nat)) ∧ Below base w w' := by
  have hb := vP_bd g hd (by omega)
  have HE : Hid (vP (g ++ [x - 33]) = vP g * 85 + x - 33) := Lib.hid (by rw [vP_snoc]; omega)
  have HE2 : Hid ((((g ++ [x - 33]).length : Nat) : Int) = (g.length : Int) + 1) := Lib.hid (by simp)
  have H := Lib.hid h
  have k3 := h.c3
  have k4 := h.c4
  have f3 := h.fr 3
  have f4 := h.fr 4
  obtain ⟨a, ha⟩ : ∃ a, vP g = a := ⟨_, rfl⟩
  obtain ⟨m, hm⟩ : ∃ m, g.length = m := ⟨_, rfl⟩
  rw [ha] at hb HE H k3
  rw [hm] at HE2 H k4 hl
  obtain ⟨b0, b1⟩ := hb
  clear h ha hm hd
  go_enter Try.func44, Try.ntmps44
  go_wp2_with fail
  (try simp only [Exit.inBlock, Exit.then])
  refine ⟨rfl, _, results_none rfl _ _ _, ?_⟩
  rw [HE.out, HE2.out]
  have h3 := H.out.set3 (.int .i64 (a * 85 + x - 33))
  have h4 := h3.1.set4 (.int .i64 ((m : Int) + 1))
  exact ⟨rfl, h4.1, h3.2.trans h4.2⟩
set_option maxHeartbeats 1000000 in
theorem gdone (base kp kc n c p M m : Nat) (A : Option Addr) (v x4 : Value) (out : List Int) (x : Int) (w : World) (h : RD w base kp kc 48 A n c p v out M (.int .i64 x) x4) (hM : M ≤ 9223372036854775807) (hm : out.length ≤ 1000000) (hm4 : m ≤ 4) (x0 : 0 ≤ x) (x1 : x ≤ 4437053124) :
    Calls Try.prog 45 #[.pointer (some ⟨kp, 0, none⟩), .int .i64 m] w fun r w' => ∃ e : Int, r = .returned (.int .i64 e) ∧ Below base w w' ∧
      ((4294967295 < x ∧ e = 4) ∨ (x ≤ 4294967295 ∧ M < out.length + m ∧ e = 7) ∨ (x ≤ 4294967295 ∧ out.length + m ≤ M ∧ e = 0 ∧ ∃ v', RD w' base kp kc 48 A n c p v' (out ++ (by4 x).take m) M (.int .i64 0) (.int .i64 0))) := by
  have H := Lib.hid h
  have k3 := h.c3
  have f3 := h.fr 3
  have f4 := h.fr 4
  have h3 := h.set3 (.int .i64 0)
  have h4 := h3.1.set4 (.int .i64 0)
  have H4 := Lib.hid h4.1
  have HB4 := Lib.hid (h3.2.trans h4.2)
  have k4 := h.c4
  clear h h3 h4
  by_cases hx : 4294967295 < x
  · go_enter Try.func45, Try.ntmps45
    go_wp2_with fail
    go_ret
    exact ⟨_, rfl, HB4.out, .inl ⟨hx, rfl⟩⟩
  · have hx2 : x ≤ 4294967295 := by omega
    go_enter Try.func45, Try.ntmps45
    go_wp2_with fail
    obtain ⟨W4, hW4⟩ : ∃ W4, (w.setCell ⟨kp, 3, none⟩ (.int .i64 0)).setCell ⟨kp, 4, none⟩ (.int .i64 0) = W4 := ⟨_, rfl⟩
    have hsz : W4.heap.size = w.heap.size := by rw [← hW4]; simp [World.setCell]
    rw [hW4] at H4 HB4 ⊢
    obtain ⟨b, hbb⟩ : ∃ b, w.heap.size = b := ⟨_, rfl⟩
    rw [hbb] at hsz ⊢
    have hrow := heap_alloc_new W4 (.cells #[.int .u8 (x / 16777216), .int .u8 (x / 65536 % 256), .int .u8 (x / 256 % 256), .int .u8 (x % 256)] 74)
    obtain ⟨W5, hW5⟩ : ∃ W5, W4.alloc (.cells #[.int .u8 (x / 16777216), .int .u8 (x / 65536 % 256), .int .u8 (x / 256 % 256), .int .u8 (x % 256)] 74) = W5 := ⟨_, rfl⟩
    have hr5 := H4.out.more (w' := W5) (by rw [← hW5]; exact (Below.refl _ _).alloc (Nat.le_refl _) _)
    have hb5 : Below base w W5 := HB4.out.trans (by rw [← hW5]; exact (Below.refl _ _).alloc H4.out.base_le _)
    rw [hW5, hsz] at hrow
    have hlt5 : b < W5.heap.size := by rw [← hW5, World.size_alloc, hsz]; omega
    have hby : Byt W5 W5.heap.size (some ⟨b, 0, none⟩) m 4 ((by4 x).take m) := ⟨by rw [List.length_take]; show min m 4 = m; omega, hm4, fun z hz => by4_rng x z (List.mem_of_mem_take hz), fun _ => ⟨b, 0, rfl, hlt5, fun i hi => by
      rw [cell_of_row W5 b (0 + i) _ 74 (0, 0) hrow]
      have hi4 : i = 0 ∨ i = 1 ∨ i = 2 ∨ i = 3 := by omega
      have e : ((by4 x).take m).getD i 0 = (by4 x).getD i 0 := by simp [List.getD, hi]
      rw [e]
      rcases hi4 with rfl | rfl | rfl | rfl
      · simp [by4]; omega
      · simp [by4]
      · simp [by4]
      · simp [by4]⟩⟩
    have HR5 := Lib.hid hr5
    have HB5 := Lib.hid hb5
    have HBY := Lib.hid hby
    have hm4i : (m : Int) ≤ 4 := by omega
    rw [hW5]
    by_cases hl : out.length + m ≤ M
    · have HP := Lib.hid (fun q => pput_ok base kp kc n c p M _ A v _ _ out (W5.drewN q) (HR5.out.drewN q) hM (HBY.out.drewN q) (by omega) hl)
      have HLM := Lib.hid hl
      clear hW4 hsz hbb hrow hW5 hr5 hb5 hlt5 hby hl
      go_region_with (go_at_call 43; refine (HP.out _).mono ?_; (rintro r w6 ⟨rfl, v6, hr6, hb6⟩); have HR6 := Lib.hid hr6; have HB6 := Lib.hid ((below_drewN HB5.out _).trans hb6); clear hr6 hb6)
      go_wp2
      go_ret
      exact ⟨_, rfl, HB6.out, .inr (.inr ⟨hx2, HLM.out, rfl, v6, HR6.out⟩)⟩
    · have HP := Lib.hid (fun q => pput_no (m := m) (c2 := 4) (A2 := some ⟨b, 0, none⟩) base kp kc n c p M _ A v _ _ out (W5.drewN q) (HR5.out.drewN q) hM (by omega) (by omega))
      have HLM : Hid (M < out.length + m) := Lib.hid (by omega)
      clear hW4 hsz hbb hrow hW5 hr5 hb5 hlt5 hby hl
      go_region_with (go_at_call 43; refine (HP.out _).mono ?_; (rintro r w6 ⟨rfl, hb6⟩); have HB6 := Lib.hid ((below_drewN HB5.out _).trans hb6); clear hb6)
      go_wp2
      go_ret
      exact ⟨_, rfl, HB6.out, .inr (.inl ⟨hx2, HLM.out, rfl⟩)⟩
end Go.Proofs.Ytnonldlddgankaa
