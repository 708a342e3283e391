/- What the document's own Peek, Stands, Number and Same (of chapter 1) answer. -/
import Derived.Test.YtnalaenanopnbaaBytes
import Derived.Outline
import Derived.Deep.QuietTactic
import Derived.BigQuiet
import Derived.WalkSpells
import Derived.LoopTactic
namespace Go.Proofs.Ytnalaenanopnbaa
open Go.RowKit
set_option linter.unusedVariables false
set_option maxRecDepth 100000

theorem refPeek_in (A : Option Addr) (n c B : Nat) (zs : List Int) (i : Nat) (w : World) (h : Byt w B A n c zs) (hi : i < n) (hn : n ≤ 1000000) :
    Calls Try.prog 18 #[.slice A n c, .int .i64 i] w fun e w' => e = .returned (.int .i64 (peekZ zs i)) ∧ w = w' := by
  obtain ⟨b, o, rfl, _, hc⟩ := h.cell (by omega)
  have hci := hc i hi
  have hr := h.getD i
  have hl := h.len
  have e1 := peekZ_in zs i (by omega)
  obtain ⟨z, hz⟩ : ∃ z, zs.getD i 0 = z := ⟨_, rfl⟩
  rw [hz] at hci hr e1
  have E1 := Lib.hid e1
  obtain ⟨r0, r1⟩ := hr
  clear e1 hl hc hz
  go_enter Try.func18, Try.ntmps18
  go_wp2
  go_ret
  exact ⟨ret_int E1.out.symm, rfl⟩

theorem refPeek_out (A : Option Addr) (n c : Nat) (zs : List Int) (i : Int) (w : World) (hl : zs.length = n) (hi : i < 0 ∨ (n : Int) ≤ i) (hn : n ≤ 1000000) :
    Calls Try.prog 18 #[.slice A n c, .int .i64 i] w fun e w' => e = .returned (.int .i64 (peekZ zs i)) ∧ w = w' := by
  have E1 := Lib.hid (peekZ_out zs i (by omega))
  clear hl
  rcases hi with hi | hi
  · go_enter Try.func18, Try.ntmps18
    go_wp2
    go_ret
    exact ⟨ret_int E1.out.symm, rfl⟩
  · go_enter Try.func18, Try.ntmps18
    go_wp2
    go_ret
    exact ⟨ret_int E1.out.symm, rfl⟩

theorem refPeek_any (A : Option Addr) (n c B : Nat) (zs : List Int) (i : Int) (w : World) (h : Byt w B A n c zs) (hn : n ≤ 1000000) :
    Calls Try.prog 18 #[.slice A n c, .int .i64 i] w fun e w' => e = .returned (.int .i64 (peekZ zs i)) ∧ w = w' := by
  by_cases hi : i < 0 ∨ (n : Int) ≤ i
  · exact refPeek_out A n c zs i w h.len hi hn
  · have e : i = ((i.toNat : Nat) : Int) := by omega
    rw [e]
    exact refPeek_in A n c B zs i.toNat w h (by omega) hn





/-- The document's own Same: of rows of one length. -/
theorem refSame_yes (A A2 : Option Addr) (n c B c2 B2 : Nat) (zs : List Int) (w : World) (hb : Byt w B A n c zs) (hb2 : Byt w B2 A2 n c2 zs) (hn : n ≤ 9223372036854775807) :
    Calls Try.prog 9 #[.slice A n c, .slice A2 n c2] w fun e w' => e = .returned (.bool true) ∧ ∃ q, w' = w.drewN q := by
  have HB := Lib.hid hb
  have HB2 := Lib.hid hb2
  clear hb hb2
  go_enter Try.func9, Try.ntmps9
  go_wp2
  go_loopw [5] (fun i wr => ∃ k q : Nat, k ≤ n ∧ i = .int .i64 k ∧ wr = w.drewN q) (fun i _ => n - (intOf i).toNat)
  case atStart => exact ⟨0, 0, Nat.zero_le _, rfl, rfl⟩
  case round =>
    obtain ⟨k, q, hk, rfl, rfl⟩ := hrel
    by_cases hlt : k < n
    · have hz := HB.out.getD k
      obtain ⟨b, o, rfl, _, hc⟩ := HB.out.cell (by omega)
      obtain ⟨b', o', rfl, _, hc'⟩ := HB2.out.cell (by omega)
      have hck := hc k hlt
      have hck' := hc' k hlt
      obtain ⟨z, hzz⟩ : ∃ z, zs.getD k 0 = z := ⟨_, rfl⟩
      rw [hzz] at hck hck' hz
      obtain ⟨z0, z1⟩ := hz
      clear hzz hc hc'
      have hkn : (k : Int) < n := by omega
      go_wp2_with fail
      go_quiet (fail)
      go_wp2
      go_roundw
      case rel => exact ⟨k + 1, _, by omega, by go_num, rfl⟩
      case measure => simp [intOf]; omega
    · go_wp2
      go_ret
      exact ⟨rfl, _, rfl⟩

end Go.Proofs.Ytnalaenanopnbaa
