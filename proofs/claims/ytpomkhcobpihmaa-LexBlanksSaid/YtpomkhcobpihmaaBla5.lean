/- Contracts of functions that the law calls, and what they lean on (a part). -/
import Derived.Outline
import Derived.Deep.QuietTactic
import Derived.BigQuiet
import Derived.WalkSpells
import Derived.LoopTactic
import Derived.Test.YtpomkhcobpihmaaBla1
namespace Go.Proofs.Ytpomkhcobpihmaa
section
open Go.RowKit
set_option linter.unusedVariables false
set_option maxRecDepth 100000
theorem refStands_no (A : Option Addr) (n c : Nat) (zs : List Int) (p : Int) (s : ByteArray) (w : World) (hl : zs.length = n) (hn : n ≤ 1000000) (hs : s.size ≤ 1000000) (hp : p < 0 ∨ (n : Int) < p + s.size) :
    Calls Try.prog 39 #[.slice A n c, .int .i64 p, .string s] w fun e w' => e = .returned (.bool false) ∧ w = w' := by
  clear hl
  by_cases h1 : p < 0
  · go_enter Try.func39, Try.ntmps39
    go_wp2
    go_ret
    exact ⟨rfl, rfl⟩
  · by_cases h2 : n < s.size
    · go_enter Try.func39, Try.ntmps39
      go_wp2
      go_ret
      exact ⟨rfl, rfl⟩
    · have h3 : (n : Int) - s.size < p := by omega
      go_enter Try.func39, Try.ntmps39
      go_wp2
      go_ret
      exact ⟨rfl, rfl⟩
theorem refStands_no2 (A : Option Addr) (n c : Nat) (zs : List Int) (p : Nat) (s : ByteArray) (w : World) (hl : zs.length = n) (hn : n ≤ 1000000) (hs : s.size ≤ 9223372036854775807) (hp : n < p + s.size) :
    Calls Try.prog 39 #[.slice A n c, .int .i64 p, .string s] w fun e w' => e = .returned (.bool false) ∧ w = w' := by
  by_cases h2 : s.size ≤ n
  · exact refStands_no A n c zs p s w hl hn (by omega) (by omega)
  · have h1 : ¬ (p : Int) < 0 := by omega
    have h3 : n < s.size := by omega
    clear hl h2
    go_enter Try.func39, Try.ntmps39
    go_wp2
    go_ret
    exact ⟨rfl, rfl⟩
theorem refStands_at (A : Option Addr) (n c B : Nat) (zs : List Int) (p : Nat) (s : ByteArray) (w : World) (hb : Byt w B A n c zs) (hn : n ≤ 1000000) (hp : p + s.size ≤ n) :
    Calls Try.prog 39 #[.slice A n c, .int .i64 p, .string s] w fun e w' => e = .returned (.bool (stB zs p s)) ∧ w = w' := by
  have HS := Lib.hid (stB_yes zs p s (by rw [hb.len]; exact hp))
  have hcv := fun W (hW : Byt W B A n c zs) => (hW.cut hp).inn.convert (P := Try.prog) (hW.cut hp).len (c - p) 23 5 9 Try.underlying23 Try.underlying5 Try.underlying9
  obtain ⟨T, hT⟩ : ∃ T, strOfNums ((zs.drop p).take s.size) = T := ⟨_, rfl⟩
  rw [hT] at hcv
  have hw := hcv w hb
  have hsl := fun W => run_cut2 (P := Try.prog) W 23 5 Try.underlying23 (fun w => by kernel_rfl) A n c p s.size (by have := hb.cap; omega)
  have HT := Lib.hid hT
  clear hT hcv hb
  have h1 : ¬ (p : Int) < 0 := by omega
  have h2 : ¬ n < s.size := by omega
  have h3 : ¬ (n : Int) - s.size < p := by omega
  go_enter Try.func39, Try.ntmps39
  go_wp2
  go_ret
  exact ⟨ret_bool (by rw [HS.out, HT.out]), rfl⟩
/-- The document's own Same: of rows of one length. -/
theorem refSame_yes (A A2 : Option Addr) (n c B c2 B2 : Nat) (zs : List Int) (w : World) (hb : Byt w B A n c zs) (hb2 : Byt w B2 A2 n c2 zs) (hn : n ≤ 9223372036854775807) :
    Calls Try.prog 38 #[.slice A n c, .slice A2 n c2] w fun e w' => e = .returned (.bool true) ∧ ∃ q, w' = w.drewN q := by
  have HB := Lib.hid hb
  have HB2 := Lib.hid hb2
  clear hb hb2
  go_enter Try.func38, Try.ntmps38
  go_wp2
  go_loopw [5] (fun i wr => ∃ k q : Nat, k ≤ n ∧ i = .int .i64 k ∧ wr = w.drewN q) (fun i _ => n - (intOf i).toNat)
  case atStart => exact ⟨0, 0, Nat.zero_le _, rfl, rfl⟩
  case round =>
    obtain ⟨k, q, hk, rfl, rfl⟩ := hrel
    by_cases hlt : k < n
    · have hz := HB.out.getD k
      obtain ⟨b, o, rfl, _, hc⟩ := HB.out.cell (by omega)
      obtain ⟨b', o', rfl, _, hc'⟩ := HB2.out.cell (by omega)
      have hck := hc k hlt
      have hck' := hc' k hlt
      obtain ⟨z, hzz⟩ : ∃ z, zs.getD k 0 = z := ⟨_, rfl⟩
      rw [hzz] at hck hck' hz
      obtain ⟨z0, z1⟩ := hz
      clear hzz hc hc'
      have hkn : (k : Int) < n := by omega
      go_wp2_with fail
      go_quiet (fail)
      go_wp2
      go_roundw
      case rel => exact ⟨k + 1, _, by omega, by go_num, rfl⟩
      case measure => simp [intOf]; omega
    · go_wp2
      go_ret
      exact ⟨rfl, _, rfl⟩
end
end Go.Proofs.Ytpomkhcobpihmaa
