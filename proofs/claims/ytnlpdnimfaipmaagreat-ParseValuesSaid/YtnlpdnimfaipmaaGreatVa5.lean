/- Contracts of functions that the law calls, and what they lean on (a part). -/
import Derived.Outline
import Derived.Deep.QuietTactic
import Derived.BigQuiet
import Derived.WalkSpells
import Derived.LoopTactic
import Derived.Test.YtnlpdnimfaipmaaGreatVa1
namespace Go.Proofs.YtnlpdnimfaipmaaGreat
section
open Go.RowKit
set_option linter.unusedVariables false
set_option maxRecDepth 100000
theorem refPeek_in (A : Option Addr) (n c B : Nat) (zs : List Int) (i : Nat) (w : World) (h : Byt w B A n c zs) (hi : i < n) (hn : n ≤ 1000000) :
    Calls Tryz.prog 91 #[.slice A n c, .int .i64 i] w fun e w' => e = .returned (.int .i64 (peekZ zs i)) ∧ w = w' := by
  obtain ⟨b, o, rfl, _, hc⟩ := h.cell (by omega)
  have hci := hc i hi
  have hr := h.getD i
  have hl := h.len
  have e1 := peekZ_in zs i (by omega)
  obtain ⟨z, hz⟩ : ∃ z, zs.getD i 0 = z := ⟨_, rfl⟩
  rw [hz] at hci hr e1
  have E1 := Lib.hid e1
  obtain ⟨r0, r1⟩ := hr
  clear e1 hl hc hz
  go_enter Tryz.func91, Tryz.ntmps91
  go_wp2
  go_ret
  exact ⟨ret_int E1.out.symm, rfl⟩
theorem refPeek_out (A : Option Addr) (n c : Nat) (zs : List Int) (i : Int) (w : World) (hl : zs.length = n) (hi : i < 0 ∨ (n : Int) ≤ i) (hn : n ≤ 1000000) :
    Calls Tryz.prog 91 #[.slice A n c, .int .i64 i] w fun e w' => e = .returned (.int .i64 (peekZ zs i)) ∧ w = w' := by
  have E1 := Lib.hid (peekZ_out zs i (by omega))
  clear hl
  rcases hi with hi | hi
  · go_enter Tryz.func91, Tryz.ntmps91
    go_wp2
    go_ret
    exact ⟨ret_int E1.out.symm, rfl⟩
  · go_enter Tryz.func91, Tryz.ntmps91
    go_wp2
    go_ret
    exact ⟨ret_int E1.out.symm, rfl⟩
theorem refPeek_any (A : Option Addr) (n c B : Nat) (zs : List Int) (i : Int) (w : World) (h : Byt w B A n c zs) (hn : n ≤ 1000000) :
    Calls Tryz.prog 91 #[.slice A n c, .int .i64 i] w fun e w' => e = .returned (.int .i64 (peekZ zs i)) ∧ w = w' := by
  by_cases hi : i < 0 ∨ (n : Int) ≤ i
  · exact refPeek_out A n c zs i w h.len hi hn
  · have e : i = ((i.toNat : Nat) : Int) := by omega
    rw [e]
    exact refPeek_in A n c B zs i.toNat w h (by omega) hn
end
end Go.Proofs.YtnlpdnimfaipmaaGreat
