/- Chapter 6, the program's own Unbase85: digit, last, read. -/
import Derived.Test.YtnonldlddgankaaPb6
namespace Go.Proofs.Ytnonldlddgankaa
open Go.RowKit
set_option linter.unusedVariables false
set_option maxRecDepth 100000

theorem byt_zero4 (w : World) : Byt (w.alloc (.cells #[.int .u8 0, .int .u8 0, .int .u8 0, .int .u8 0] 5)) (w.heap.size + 1) (some ⟨w.heap.size, 0, none⟩) 4 4 [0, 0, 0, 0] :=
  byt_lit w (0, 0) [0, 0, 0, 0] (fun y hy => by simp at hy; omega) 4 rfl _ rfl
theorem gput4 (base kp kc n c p M : Nat) (T : TypeId) (A : Option Addr) (v x3 x4 : Value) (out : List Int) (W : World) (h : RD W base kp kc T A n c p v out M x3 x4) (hM : M ≤ 9223372036854775807) (hm : out.length ≤ 1000000) :
    Calls Try.prog 43 #[.pointer (some ⟨kp, 0, none⟩), .slice (some ⟨W.heap.size, 0, none⟩) 4 4] (W.alloc (.cells #[.int .u8 0, .int .u8 0, .int .u8 0, .int .u8 0] 5)) fun r w' => ∃ e : Int, r = .returned (.int .i64 e) ∧ Below base W w' ∧ ((M < out.length + 4 ∧ e = 7) ∨ (out.length + 4 ≤ M ∧ e = 0 ∧ ∃ v', RD w' base kp kc T A n c p v' (out ++ [0, 0, 0, 0]) M x3 x4)) := by
  have hr := h.more ((Below.refl W.heap.size W).alloc (Nat.le_refl _) (.cells #[.int .u8 0, .int .u8 0, .int .u8 0, .int .u8 0] 5))
  have hbe := (Below.refl base W).alloc h.base_le (.cells #[.int .u8 0, .int .u8 0, .int .u8 0, .int .u8 0] 5)
  by_cases hl : out.length + 4 ≤ M
  · exact (pput_ok base kp kc n c p M T A v x3 x4 out _ hr hM (byt_zero4 W) (by omega) hl).mono fun r w' ⟨h1, v', h2, h3⟩ => ⟨0, h1, hbe.trans h3, .inr ⟨hl, rfl, v', h2⟩⟩
  · exact (pput_no base kp kc n c p M T A v x3 x4 out _ hr hM (by omega) (by omega)).mono fun r w' ⟨h1, h3⟩ => ⟨7, h1, hbe.trans h3, .inl ⟨by omega, rfl⟩⟩
/-- How a reader of groups stands behind a call. -/
def GdE (w w' : World) (base kp kc : Nat) (A : Option Addr) (n c p M : Nat) (t : Int × List Int × List Int) (e : Int) : Prop := Below base w w' ∧ e = t.1 ∧ (e = 0 → GD w' base kp kc A n c p M t.2.1 t.2.2)
theorem grpR5 (M : Nat) (g o : List Int) (hg : g.length = 5) (e : Int) (h : (4294967295 < vP g ∧ e = 4) ∨ (vP g ≤ 4294967295 ∧ M < o.length + 4 ∧ e = 7) ∨ (vP g ≤ 4294967295 ∧ o.length + 4 ≤ M ∧ e = 0)) : e = (grpR M g o).2 ∧ (e = 0 → (grpR M g o).1 = o ++ (by4 (vP g)).take 4) := by
  unfold grpR
  rw [hg, ← vP5 g hg]
  rcases h with ⟨h1, rfl⟩ | ⟨h1, h2, rfl⟩ | ⟨h1, h2, rfl⟩
  · rw [if_pos h1]; exact ⟨rfl, fun h => absurd h (by decide)⟩
  · rw [if_neg (by omega), if_pos (by omega)]; exact ⟨rfl, fun h => absurd h (by decide)⟩
  · rw [if_neg (by omega), if_neg (by omega)]; exact ⟨rfl, fun _ => rfl⟩
set_option maxHeartbeats 2000000 in
theorem ggdigit (base kp kc n c p M : Nat) (A : Option Addr) (g out : List Int) (x : Int) (w : World) (h : GD w base kp kc A n c p M g out) (hM : M ≤ 9223372036854775807) (hm : out.length ≤ 1000000) (hl : g.length ≤ 4) :
    Calls Try.prog 37 #[.pointer (some ⟨kp, 0, none⟩), .int .i64 x] w fun r w' => ∃ e : Int, r = .returned (.int .i64 e) ∧ GdE w w' base kp kc A n c p M (gdP M g out x) e := by
  obtain ⟨⟨v, h⟩, hd⟩ := h
  have H := Lib.hid h
  have HD := Lib.hid hd
  have k4 := h.c4
  by_cases hx : x < 0
  · have HP : Hid (gdP M g out x = (2, g, out)) := Lib.hid (by unfold gdP; rw [if_pos hx])
    clear h hd
    go_enter Try.func37, Try.ntmps37
    go_wp2_with fail
    go_ret
    refine ⟨_, rfl, ?_⟩
    rw [HP.out]
    exact ⟨Below.refl _ _, rfl, fun h => absurd h (by decide)⟩
  by_cases h1 : x = 122 ∧ g.length = 0
  · obtain ⟨rfl, h0⟩ := h1
    have hg : g = [] := List.eq_nil_of_length_eq_zero h0
    subst hg
    have HP : Hid (gdP M [] out 122 = if M < out.length + 4 then (7, [], out) else (0, [], out ++ [0, 0, 0, 0])) := Lib.hid (by unfold gdP; rw [if_neg hx, if_pos ⟨rfl, rfl⟩])
    have HPU := Lib.hid (fun W (hW : RD W base kp kc 48 A n c p v out M (.int .i64 (vP [])) (.int .i64 (([] : List Int).length : Nat))) => gput4 base kp kc n c p M _ A v _ _ out W hW hM hm)
    clear h hd h0
    go_enter Try.func37, Try.ntmps37
    go_wp2_with (go_at_call 43; refine (HPU.out _ H.out).mono ?_; (rintro r w6 ⟨e, rfl, hb6, h6⟩); have H6 := Lib.hid h6; have HB6 := Lib.hid hb6; clear h6 hb6)
    go_ret
    refine ⟨_, rfl, ?_⟩
    rw [HP.out]
    rcases H6.out with ⟨hl, rfl⟩ | ⟨hl, rfl, v', hr⟩
    · rw [if_pos hl]
      exact ⟨HB6.out, rfl, fun h => absurd h (by decide)⟩
    · rw [if_neg (by omega)]
      exact ⟨HB6.out, rfl, fun _ => ⟨⟨v', hr⟩, fun d hd => by cases hd⟩⟩
  by_cases h2 : x < 33 ∨ 117 < x
  · have HP : Hid (gdP M g out x = (4, g, out)) := Lib.hid (by unfold gdP; rw [if_neg hx, if_neg h1, if_pos h2])
    have h3 : (x = 122 ∧ ¬ g.length = 0) ∨ ((x == 122) = false ∧ x < 33) ∨ ((x == 122) = false ∧ 33 ≤ x ∧ 117 < x) := by
      by_cases h4 : x = 122
      · exact .inl ⟨h4, fun h5 => h1 ⟨h4, h5⟩⟩
      · rw [beq_eq_false_iff_ne.2 h4]
        simp only [true_and]
        omega
    obtain ⟨gl, hgl⟩ : ∃ gl, g.length = gl := ⟨_, rfl⟩
    rw [hgl] at k4 h3
    clear h hd h1 h2 hl hgl
    rcases h3 with ⟨rfl, h5⟩ | ⟨h5, h6⟩ | ⟨h5, h6, h7⟩
    · have h5b : ((gl : Int) == 0) = false := beq_eq_false_iff_ne.2 (by omega)
      go_enter Try.func37, Try.ntmps37
      go_wp2_with fail
      go_ret
      refine ⟨_, rfl, ?_⟩
      rw [HP.out]
      exact ⟨Below.refl _ _, rfl, fun h => absurd h (by decide)⟩
    all_goals
      go_enter Try.func37, Try.ntmps37
      go_wp2_with fail
      go_ret
      refine ⟨_, rfl, ?_⟩
      rw [HP.out]
      exact ⟨Below.refl _ _, rfl, fun h => absurd h (by decide)⟩
  have r1 : 33 ≤ x := by omega
  have r2 : x ≤ 117 := by omega
  have r3 : (x == 122) = false := beq_eq_false_iff_ne.2 (by omega)
  have HA := Lib.hid (gadd base kp kc n c p M A v g out x w h hd hl r1 r2)
  have hd2 : ∀ d ∈ g ++ [x - 33], 0 ≤ d ∧ d ≤ 84 := fun d hm => by
    rcases List.mem_append.1 hm with hm | hm
    · exact hd d hm
    · simp at hm; subst hm; omega
  have HD2 := Lib.hid hd2
  have hlen : (g ++ [x - 33]).length = g.length + 1 := by simp
  by_cases h4 : g.length = 4
  · have HP : Hid (gdP M g out x = ((grpR M (g ++ [x - 33]) out).2, [], (grpR M (g ++ [x - 33]) out).1)) := Lib.hid (by unfold gdP; rw [if_neg hx, if_neg h1, if_neg h2, if_pos h4])
    obtain ⟨g2, hg2⟩ : ∃ g2, g ++ [x - 33] = g2 := ⟨_, rfl⟩
    rw [hg2] at HP HA HD2 hd2 hlen
    have hl5 : g2.length = 5 := by omega
    rw [hl5] at HA
    have hvb := vP_bd g2 hd2 (by omega)
    have HL5 := Lib.hid hl5
    obtain ⟨y, hy⟩ : ∃ y, vP g2 = y := ⟨_, rfl⟩
    have HY := Lib.hid hy
    rw [hy] at HA hvb
    have HDN := Lib.hid (fun W (hW : RD W base kp kc 48 A n c p v out M (.int .i64 y) (.int .i64 ((5 : Nat) : Int))) => gdone base kp kc n c p M 4 A v _ out y W hW hM hm (by omega) hvb.1 hvb.2)
    clear h hd h1 h2 hl hlen hl5 hd2 hg2 h4 hvb hy k4
    go_enter Try.func37, Try.ntmps37
    go_wp2_with (first
      | (go_at_call 44; refine HA.out.mono ?_; (rintro r w2 ⟨rfl, hr2, hb2⟩); have HR2 := Lib.hid hr2; have HB2 := Lib.hid hb2; have k4 := hr2.c4; clear hr2 hb2)
      | (go_at_call 45; refine (HDN.out _ HR2.out).mono ?_; (rintro r w6 ⟨e, rfl, hb6, h6⟩); have H6 := Lib.hid h6; have HB6 := Lib.hid (HB2.out.trans hb6); clear h6 hb6))
    go_ret
    refine ⟨_, rfl, ?_⟩
    rw [HP.out]
    have h6 := H6.out
    rw [← HY.out] at h6
    rcases h6 with h6 | h6 | ⟨h6, h7, h8, v', hr⟩
    · have := grpR5 M g2 out HL5.out e (.inl h6)
      exact ⟨HB6.out, this.1, fun h0 => by omega⟩
    · have := grpR5 M g2 out HL5.out e (.inr (.inl h6))
      exact ⟨HB6.out, this.1, fun h0 => by omega⟩
    · have := grpR5 M g2 out HL5.out e (.inr (.inr ⟨h6, h7, h8⟩))
      refine ⟨HB6.out, this.1, fun h0 => ⟨⟨v', ?_⟩, fun d hd => by cases hd⟩⟩
      dsimp only
      rw [this.2 h0]
      exact hr
  · have HP : Hid (gdP M g out x = (0, g ++ [x - 33], out)) := Lib.hid (by unfold gdP; rw [if_neg hx, if_neg h1, if_neg h2, if_neg h4])
    obtain ⟨g2, hg2⟩ : ∃ g2, g ++ [x - 33] = g2 := ⟨_, rfl⟩
    rw [hg2] at HP HA HD2 hlen
    obtain ⟨l2, hl2⟩ : ∃ l2, g2.length = l2 := ⟨_, rfl⟩
    have hne5 : ¬ (l2 : Int) = 5 := by omega
    have hne5b : ((l2 : Int) == 5) = false := beq_eq_false_iff_ne.2 hne5
    have HL2 := Lib.hid hl2
    rw [hl2] at HA
    clear h hd h1 h2 hl hlen hd2 hg2 h4 k4 hl2
    go_enter Try.func37, Try.ntmps37
    go_wp2_with (first
      | (go_at_call 44; refine HA.out.mono ?_; (rintro r w2 ⟨rfl, hr2, hb2⟩); have HR2 := Lib.hid hr2; have HB2 := Lib.hid hb2; have k4 := hr2.c4; clear hr2 hb2))
    go_ret
    refine ⟨_, rfl, ?_⟩
    rw [HP.out]
    exact ⟨HB2.out, rfl, fun _ => ⟨⟨v, by dsimp only; rw [HL2.out]; exact HR2.out⟩, HD2.out⟩⟩

/-- What the last group answers. -/
def LsE (w w' : World) (base kp kc : Nat) (A : Option Addr) (n c p M : Nat) (t : List Int × Int) (e : Int) : Prop := Below base w w' ∧ e = t.2 ∧ (e = 0 → ∃ v x3 x4, RD w' base kp kc 48 A n c p v t.1 M x3 x4)
set_option maxHeartbeats 2000000 in
theorem gglast (base kp kc n c p M : Nat) (A : Option Addr) (g out : List Int) (w : World) (h : GD w base kp kc A n c p M g out) (hM : M ≤ 9223372036854775807) (hm : out.length ≤ 1000000) (hl : g.length ≤ 4) :
    Calls Try.prog 38 #[.pointer (some ⟨kp, 0, none⟩)] w fun r w' => ∃ e : Int, r = .returned (.int .i64 e) ∧ LsE w w' base kp kc A n c p M (lstR M g out) e := by
  obtain ⟨⟨v, h⟩, hd⟩ := h
  have H := Lib.hid h
  have HD := Lib.hid hd
  have k4 := h.c4
  obtain ⟨gl, hgl⟩ : ∃ gl, g.length = gl := ⟨_, rfl⟩
  have HGL := Lib.hid hgl
  rw [hgl] at k4 hl
  have h3 : gl = 0 ∨ gl = 1 ∨ 2 ≤ gl := by omega
  clear h hd hgl
  rcases h3 with rfl | rfl | hg2
  · have HP : Hid (lstR M g out = (out, 0)) := Lib.hid (by unfold lstR; rw [if_pos HGL.out])
    go_enter Try.func38, Try.ntmps38
    go_wp2_with fail
    go_ret
    refine ⟨_, rfl, ?_⟩
    rw [HP.out]
    exact ⟨Below.refl _ _, rfl, fun _ => ⟨v, _, _, H.out⟩⟩
  · have HP : Hid (lstR M g out = ([], 4)) := Lib.hid (by unfold lstR; rw [if_neg (by rw [HGL.out]; decide), if_pos HGL.out])
    go_enter Try.func38, Try.ntmps38
    go_wp2_with fail
    go_ret
    refine ⟨_, rfl, ?_⟩
    rw [HP.out]
    exact ⟨Below.refl _ _, rfl, fun h => absurd h (by decide)⟩
  · have HP : Hid (lstR M g out = grpR M g out) := Lib.hid (by unfold lstR; rw [if_neg (by rw [HGL.out]; omega), if_neg (by rw [HGL.out]; omega)])
    have h0a : ((gl : Int) == 0) = false := beq_eq_false_iff_ne.2 (by omega)
    have h1a : ((gl : Int) == 1) = false := beq_eq_false_iff_ne.2 (by omega)
    have HG2 := Lib.hid hg2
    clear hg2
    go_enter Try.func38, Try.ntmps38
    go_wp2_with fail
    go_loopg [13] 6 (fun gk uv wr => ∃ (j : Nat), gl + j ≤ 5 ∧ 5 < gl + j + gk ∧ Hid (RD wr base kp kc 48 A n c p v out M (.int .i64 (vP (g ++ List.replicate j 84))) (.int .i64 ((g ++ List.replicate j 84).length : Nat))) ∧ Hid (Below base w wr))
    case atStart => exact ⟨0, by omega, by have := HG2.out; omega, by simpa using H, Lib.hid (Below.refl _ _)⟩
    case round =>
      obtain ⟨j, hj5, hjk, HR, HB⟩ := hrel
      have k5 := HR.out.c4
      have hlj : (g ++ List.replicate j 84).length = gl + j := by rw [List.length_append, List.length_replicate, HGL.out]
      rw [hlj] at k5
      have hdj : ∀ d ∈ g ++ List.replicate j 84, 0 ≤ d ∧ d ≤ 84 := fun d hm => by
        rcases List.mem_append.1 hm with hm | hm
        · exact HD.out d hm
        · rw [List.eq_of_mem_replicate hm]; omega
      by_cases hlt : gl + j < 5
      · have HA := Lib.hid (gadd base kp kc n c p M A v _ out 117 wr HR.out hdj (by omega) (by omega) (by omega))
        have hlti : (gl : Int) + j < 5 := by omega
        clear hlj hdj
        go_wp2_with (first
          | (go_at_call 44; refine HA.out.mono ?_; (rintro r w2 ⟨rfl, hr2, hb2⟩); have HR2 := Lib.hid hr2; have HB2 := Lib.hid (HB.out.trans hb2); clear hr2 hb2))
        go_roundg (gk - 1)
        case rel =>
          refine ⟨j + 1, by omega, by omega, ?_, HB2⟩
          have e : g ++ List.replicate j 84 ++ [(117 : Int) - 33] = g ++ List.replicate (j + 1) 84 := by rw [List.replicate_succ', List.append_assoc]; rfl
          rw [← e]
          exact HR2
        case measure => omega
      · have hj : j = 5 - g.length := by rw [HGL.out]; omega
        have hlti : ¬ (gl : Int) + j < 5 := by omega
        have hpad := vP_pad g (by rw [HGL.out]; omega)
        rw [← hj] at hpad
        have hvb := vP_bd _ hdj (by omega)
        rw [hpad] at hvb
        have hr := HR.out
        rw [hpad] at hr
        have hsub : (gl : Int) - 1 = ((gl - 1 : Nat) : Int) := by have := HG2.out; omega
        have HDN := Lib.hid (gdone base kp kc n c p M (gl - 1) A v _ out _ wr hr hM hm (by omega) hvb.1 hvb.2)
        have HSUB := Lib.hid hsub
        rw [← hsub] at HDN
        clear hlj hdj hj hpad hvb hr hsub
        go_wp2_with (first
          | (go_at_call 45; refine HDN.out.mono ?_; (rintro r w6 ⟨e, rfl, hb6, h6⟩); have H6 := Lib.hid h6; have HB6 := Lib.hid (HB.out.trans hb6); clear h6 hb6))
        go_ret
        refine ⟨_, rfl, ?_⟩
        rw [HP.out]
        unfold LsE grpR
        rw [HGL.out]
        rcases H6.out with ⟨h1, rfl⟩ | ⟨h1, h2, rfl⟩ | ⟨h1, h2, rfl, v', hr⟩
        · rw [if_pos h1]; exact ⟨HB6.out, rfl, fun h => absurd h (by decide)⟩
        · rw [if_neg (by omega), if_pos h2]; exact ⟨HB6.out, rfl, fun h => absurd h (by decide)⟩
        · rw [if_neg (by omega), if_neg (by omega)]; exact ⟨HB6.out, rfl, fun _ => ⟨v', _, _, hr⟩⟩
end Go.Proofs.Ytnonldlddgankaa
