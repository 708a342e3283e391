/- What the methods of package cursor's Cursor answer and where the cursor stands behind them, and what the document's own Peek answers. -/
import Derived.Test.YtffmdlknkimlhaaWords
import Derived.Test.YtffmdlknkimlhaaShelf
import Derived.Outline
import Derived.Deep.DeepFit
import Derived.Deep.QuietTactic
import Derived.BigQuiet
import Derived.WalkSpells
namespace Go.Proofs.Ytffmdlknkimlhaa
open Go.RowKit
set_option linter.unusedVariables false

theorem pos_any (g n c p : Nat) (A : Option Addr) (w : World) (h : Cur w g A n c p) :
    Calls Try.prog 16 #[.pointer (some ⟨g, 0, none⟩)] w fun e w' => e = .returned (.int .i64 p) ∧ w = w' := by
  have h1 := h.c1
  go_enter Try.func16, Try.ntmps16
  go_wp2
  go_ret
  exact ⟨rfl, rfl⟩

theorem len_any (g n c p : Nat) (A : Option Addr) (w : World) (h : Cur w g A n c p) :
    Calls Try.prog 17 #[.pointer (some ⟨g, 0, none⟩)] w fun e w' => e = .returned (.int .i64 n) ∧ w = w' := by
  have h0 := h.c0
  go_enter Try.func17, Try.ntmps17
  go_wp2
  go_ret
  exact ⟨rfl, rfl⟩

theorem left_any (g n c p : Nat) (A : Option Addr) (w : World) (h : Cur w g A n c p) (hp : p ≤ n) (hn : n ≤ 9223372036854775807) :
    Calls Try.prog 18 #[.pointer (some ⟨g, 0, none⟩)] w fun e w' => e = .returned (.int .i64 ((n : Int) - p)) ∧ w = w' := by
  go_enter Try.func18, Try.ntmps18
  go_wp2_with (first
    | (go_at_call 16; refine (pos_any _ _ _ _ _ _ h).mono ?_; rintro e w' ⟨rfl, rfl⟩)
    | (go_at_call 17; refine (len_any _ _ _ _ _ _ h).mono ?_; rintro e w' ⟨rfl, rfl⟩))
  go_ret
  exact ⟨rfl, rfl⟩

theorem refPeek_in (A : Option Addr) (n c B : Nat) (zs : List Int) (i : Nat) (w : World) (h : Byt w B A n c zs) (hi : i < n) (hn : n ≤ 1000000) :
    Calls Try.prog 29 #[.slice A n c, .int .i64 i] w fun e w' => e = .returned (.int .i64 (peekZ zs i)) ∧ w = w' := by
  obtain ⟨b, o, rfl, _, hc⟩ := h.cell (by omega)
  have hci := hc i hi
  have hr := h.getD i
  have hl := h.len
  have e1 := peekZ_in zs i (by omega)
  obtain ⟨z, hz⟩ : ∃ z, zs.getD i 0 = z := ⟨_, rfl⟩
  rw [hz] at hci hr e1
  have E1 := Lib.hid e1
  obtain ⟨r0, r1⟩ := hr
  clear e1 hl hc hz
  go_enter Try.func29, Try.ntmps29
  go_wp2
  go_ret
  exact ⟨ret_int E1.out.symm, rfl⟩

theorem refPeek_out (A : Option Addr) (n c : Nat) (zs : List Int) (i : Int) (w : World) (hl : zs.length = n) (hi : i < 0 ∨ (n : Int) ≤ i) (hn : n ≤ 1000000) :
    Calls Try.prog 29 #[.slice A n c, .int .i64 i] w fun e w' => e = .returned (.int .i64 (peekZ zs i)) ∧ w = w' := by
  have E1 := Lib.hid (peekZ_out zs i (by omega))
  clear hl
  rcases hi with hi | hi
  · go_enter Try.func29, Try.ntmps29
    go_wp2
    go_ret
    exact ⟨ret_int E1.out.symm, rfl⟩
  · go_enter Try.func29, Try.ntmps29
    go_wp2
    go_ret
    exact ⟨ret_int E1.out.symm, rfl⟩

/-- Peek, where there is a byte. -/
theorem peek_in (g n c p B : Nat) (A : Option Addr) (zs : List Int) (i : Int) (q : Nat) (w : World) (h : Cur w g A n c p) (hb : Byt w B A n c zs) (hp : p ≤ n) (hn : n ≤ 1000000) (hq : (q : Int) = p + i) (hqn : q < n) :
    Calls Try.prog 11 #[.pointer (some ⟨g, 0, none⟩), .int .i64 i] w fun e w' => e = .returned (.int .i64 (peekZ zs q)) ∧ ∃ k, w' = w.drewN k := by
  obtain ⟨b, o, rfl, _, hc⟩ := hb.cell (by omega)
  have hci := hc q hqn
  have hr := hb.getD q
  have hl := hb.len
  have e1 := peekZ_in zs q (by omega)
  obtain ⟨z, hz⟩ : ∃ z, zs.getD q 0 = z := ⟨_, rfl⟩
  rw [hz] at hci hr e1
  have E1 := Lib.hid e1
  obtain ⟨r0, r1⟩ := hr
  have h0 := h.c0
  have h1 := h.c1
  have b1 : -(p : Int) ≤ i := by omega
  have b2 : i < (n : Int) - p := by omega
  have eq1 : (p : Int) + i = (q : Int) := hq.symm
  clear e1 hl hc hq hb hz
  have ew : IntKind.i64.wrap ((p : Int) + i) = (q : Int) := by rw [eq1]; exact IntWalk.i64_in _ (by omega)
  have ez : IntKind.i64.wrap z = z := IntWalk.i64_in _ (by omega)
  have EW := Lib.hid ew
  have EQ := Lib.hid eq1
  have EZ := Lib.hid ez
  clear ew eq1 ez
  go_enter Try.func11, Try.ntmps11
  go_wp2_with (first
    | (go_at_call 16; refine (pos_any _ _ _ _ _ _ h).mono ?_; rintro e w' ⟨rfl, rfl⟩)
    | (go_at_call 18; refine (left_any _ _ _ _ _ _ h (by omega) (by omega)).mono ?_; rintro e w' ⟨rfl, rfl⟩))
  have ew := EW.out
  have eq1 := EQ.out
  have ez := EZ.out
  go_quiet (fail)
  go_wp2
  go_ret
  exact ⟨ret_int E1.out.symm, _, rfl⟩

/-- Peek, where there is none. -/
theorem peek_out (g n c p : Nat) (A : Option Addr) (zs : List Int) (i : Int) (w : World) (h : Cur w g A n c p) (hl : zs.length = n) (hp : p ≤ n) (hn : n ≤ 1000000) (hi : i < -(p : Int) ∨ (n : Int) - p ≤ i) :
    Calls Try.prog 11 #[.pointer (some ⟨g, 0, none⟩), .int .i64 i] w fun e w' => e = .returned (.int .i64 (-1)) ∧ w = w' := by
  clear hl
  rcases hi with hi | hi
  all_goals
    go_enter Try.func11, Try.ntmps11
    go_wp2_with (first
      | (go_at_call 16; refine (pos_any _ _ _ _ _ _ h).mono ?_; rintro e w' ⟨rfl, rfl⟩)
      | (go_at_call 18; refine (left_any _ _ _ _ _ _ h (by omega) (by omega)).mono ?_; rintro e w' ⟨rfl, rfl⟩))
    go_ret
    exact ⟨rfl, rfl⟩
end Go.Proofs.Ytffmdlknkimlhaa
