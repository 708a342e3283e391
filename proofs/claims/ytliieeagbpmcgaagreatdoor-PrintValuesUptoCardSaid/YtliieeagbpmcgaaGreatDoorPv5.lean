/- Contracts of functions that the law calls, and what they lean on (a part). -/
import Derived.Outline
import Derived.Deep.QuietTactic
import Derived.BigQuiet
import Derived.WalkSpells
import Derived.LoopTactic
import Derived.Test.YtliieeagbpmcgaaGreatDoorPv1
namespace Go.Proofs.YtliieeagbpmcgaaGreatDoor
section
open Go.RowKit
set_option linter.unusedVariables false
set_option maxRecDepth 100000
/-- The document's own Same: of rows of one length. -/
theorem refSame_yes (A A2 : Option Addr) (n c B c2 B2 : Nat) (zs : List Int) (w : World) (hb : Byt w B A n c zs) (hb2 : Byt w B2 A2 n c2 zs) (hn : n ≤ 9223372036854775807) :
    Calls Tryz.prog 19 #[.slice A n c, .slice A2 n c2] w fun e w' => e = .returned (.bool true) ∧ ∃ q, w' = w.drewN q := by
  have HB := Lib.hid hb
  have HB2 := Lib.hid hb2
  clear hb hb2
  go_enter Tryz.func19, Tryz.ntmps19
  go_wp2
  go_loopw [5] (fun i wr => ∃ k q : Nat, k ≤ n ∧ i = .int .i64 k ∧ wr = w.drewN q) (fun i _ => n - (intOf i).toNat)
  case atStart => exact ⟨0, 0, Nat.zero_le _, rfl, rfl⟩
  case round =>
    obtain ⟨k, q, hk, rfl, rfl⟩ := hrel
    by_cases hlt : k < n
    · have hz := HB.out.getD k
      obtain ⟨b, o, rfl, _, hc⟩ := HB.out.cell (by omega)
      obtain ⟨b', o', rfl, _, hc'⟩ := HB2.out.cell (by omega)
      have hck := hc k hlt
      have hck' := hc' k hlt
      obtain ⟨z, hzz⟩ : ∃ z, zs.getD k 0 = z := ⟨_, rfl⟩
      rw [hzz] at hck hck' hz
      obtain ⟨z0, z1⟩ := hz
      clear hzz hc hc'
      have hkn : (k : Int) < n := by omega
      go_wp2_with fail
      go_quiet (fail)
      go_wp2
      go_roundw
      case rel => exact ⟨k + 1, _, by omega, by go_num, rfl⟩
      case measure => simp [intOf]; omega
    · go_wp2
      go_ret
      exact ⟨rfl, _, rfl⟩
end
end Go.Proofs.YtliieeagbpmcgaaGreatDoor
