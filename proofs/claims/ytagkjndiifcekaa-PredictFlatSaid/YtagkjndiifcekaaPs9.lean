/- Chapter 9, the project's own: the row of five rules; ahead, row, tag, within, May. -/
import Derived.Test.YtagkjndiifcekaaPr9
import Derived.Test.YtagkjndiifcekaaDo9
import Derived.Laws.EntriesVeiled
import Derived.WideLaws
namespace Go.Proofs.Ytagkjndiifcekaa
open Go.RowKit
set_option linter.unusedVariables false
set_option maxRecDepth 100000

/-- What is expected, by a row's tag, as a row of five functions. -/
abbrev ruV (f : Nat) (r : Value) : Value := .func (.func f) #[r] #[]
abbrev rulV (r : Value) : Value := .agg #[ruV 28 r, ruV 29 r, ruV 30 r, ruV 31 r, ruV 32 r]
theorem rulesC (A : Option Addr) (m cp n c : Nat) (w : World) :
    Calls Try.prog 25 #[rwV A m cp n c] w fun e w' => e = .returned (rulV (rwV A m cp n c)) ∧ Below w.heap.size w w' := by
  have hmf : ∀ (fn : Fn) (first cap : Array Value) (w : World), (Instr.makeFunc fn first cap).run Try.prog w = .ok (.func fn first cap) w := fun _ _ _ _ => rfl
  have HB1 := Lib.hid ((Below.refl w.heap.size w).alloc (Nat.le_refl _) (.cells #[.slice A m cp, .int .i64 n, .int .i64 c] 49))
  go_enter Try.func25, Try.ntmps25
  go_wp2_with fail
  refine bodyPost_ret (results_cell_row rfl _ _ (w.heap.size + 1) 51 _ (0, 0) _ rfl (heap_alloc2_new w _ _) Try.underlying51 rfl (by kernel_rfl)) rfl ?_
  exact ⟨rfl, HB1.out.alloc HB1.out.size _⟩
/-- Of a tag the function. -/
def isRule (T : Int) (F : Nat) : Prop := (T = 0 ∧ F = 28) ∨ (T = 1 ∧ F = 29) ∨ (T = 2 ∧ F = 30) ∨ (T = 3 ∧ F = 31) ∨ (T = 4 ∧ F = 32)
theorem isRule_ex (T : Int) (h : 0 ≤ T ∧ T ≤ 4) : ∃ F, isRule T F := by
  obtain rfl | rfl | rfl | rfl | rfl : T = 0 ∨ T = 1 ∨ T = 2 ∨ T = 3 ∨ T = 4 := by omega
  · exact ⟨_, .inl ⟨rfl, rfl⟩⟩
  · exact ⟨_, .inr (.inl ⟨rfl, rfl⟩)⟩
  · exact ⟨_, .inr (.inr (.inl ⟨rfl, rfl⟩))⟩
  · exact ⟨_, .inr (.inr (.inr (.inl ⟨rfl, rfl⟩)))⟩
  · exact ⟨_, .inr (.inr (.inr (.inr ⟨rfl, rfl⟩)))⟩
theorem rule_ix (T : Int) (F : Nat) (h : isRule T F) (r : Value) (W : World) : (Instr.index 51 (rulV r) (.int .i64 T)).run Try.prog W = .ok (ruV F r) W := by
  rcases h with ⟨rfl, rfl⟩ | ⟨rfl, rfl⟩ | ⟨rfl, rfl⟩ | ⟨rfl, rfl⟩ | ⟨rfl, rfl⟩ <;> kernel_rfl
theorem rule_cf (T : Int) (F : Nat) (h : isRule T F) (args : Array Value) (W : World) : (callFunc F args).run Try.prog W = .ok (.enter F args) W := by
  rcases h with ⟨rfl, rfl⟩ | ⟨rfl, rfl⟩ | ⟨rfl, rfl⟩ | ⟨rfl, rfl⟩ | ⟨rfl, rfl⟩ <;> kernel_rfl
theorem ruleC (T : Int) (F : Nat) (h : isRule T F) (A : Option Addr) (m cp i n c : Nat) (ps : List Int) (w : World) (hb : Byt w w.heap.size A m cp ps) (hi : i < m) (hm : m ≤ 100000000) (hc : 1 ≤ c ∧ c ≤ 4) (hn : 1 ≤ n ∧ n ≤ 16384) :
    Calls Try.prog F #[rwV A m cp n c, .int .i64 i] w fun e w' => e = .returned (.int .u8 (gsZ T c n ps i)) ∧ Below w.heap.size w w' := by
  rcases h with ⟨rfl, rfl⟩ | ⟨rfl, rfl⟩ | ⟨rfl, rfl⟩ | ⟨rfl, rfl⟩ | ⟨rfl, rfl⟩
  · exact nothingC A m cp i n c w
  · exact leftC A m cp i n c ps w hb hi hm hc hn
  · exact aboveC A m cp i n c ps w hb hi hm hn
  · exact halfC A m cp i n c ps w hb hi hm hc hn
  · exact nearestC A m cp i n c ps w hb hi hm hc hn
theorem withinC (n a b : Int) (w : World) : Calls Try.prog 20 #[.int .i64 n, .int .i64 a, .int .i64 b] w fun e w' => e = .returned (.bool (decide (a ≤ n ∧ n ≤ b))) ∧ w = w' := by
  by_cases h1 : a ≤ n
  · have e1 : decide (a ≤ n ∧ n ≤ b) = decide (n ≤ b) := by simp [h1]
    rw [e1]
    go_enter Try.func20, Try.ntmps20
    go_wp2_with fail
    go_ret
    exact ⟨rfl, rfl⟩
  · have e1 : decide (a ≤ n ∧ n ≤ b) = false := by simp [h1]
    have h2 : decide (a ≤ n) = false := by simp [h1]
    rw [e1]
    go_enter Try.func20, Try.ntmps20
    go_wp2_with fail
    go_ret
    exact ⟨rfl, rfl⟩
theorem aheadC (P C K : Int) (w : World) : Calls Try.prog 23 #[shV P C K] w fun e w' => e = .returned (.int .i64 (if 10 ≤ P then 1 else 0)) ∧ Below w.heap.size w w' := by
  have HB1 := Lib.hid ((Below.refl w.heap.size w).alloc (Nat.le_refl _) (.cells #[.int .i64 P, .int .i64 C, .int .i64 K] 28))
  by_cases h1 : P < 10
  · rw [if_neg (by omega)]
    go_enter Try.func23, Try.ntmps23
    go_wp2_with fail
    go_ret
    exact ⟨rfl, HB1.out⟩
  · rw [if_pos (by omega)]
    go_enter Try.func23, Try.ntmps23
    go_wp2_with fail
    go_ret
    exact ⟨rfl, HB1.out⟩
theorem rowC (P : Int) (c k n : Nat) (w : World) (hc : c ≤ 4) (hk : k ≤ 4096) (hn : c * k = n) : Calls Try.prog 24 #[shV P c k] w fun e w' => e = .returned (.int .i64 n) ∧ Below w.heap.size w w' := by
  have HB1 := Lib.hid ((Below.refl w.heap.size w).alloc (Nat.le_refl _) (.cells #[.int .i64 P, .int .i64 c, .int .i64 k] 28))
  have hnb : n ≤ 16384 := by rw [← hn]; exact Nat.mul_le_mul hc hk
  have eN : (c : Int) * (k : Int) = n := by rw [← hn]; simp
  have wN : IntKind.i64.wrap (n : Int) = n := IntWalk.i64_in _ (by omega)
  clear hn
  go_enter Try.func24, Try.ntmps24
  go_wp2_with fail
  go_ret
  exact ⟨rfl, HB1.out⟩
theorem tagC (P C K : Int) (w : World) (hP : 2 ≤ P ∧ P ≤ 15) : Calls Try.prog 26 #[shV P C K] w fun e w' => e = .returned (.int .i64 (tagZ P)) ∧ Below w.heap.size w w' := by
  have HB1 := Lib.hid ((Below.refl w.heap.size w).alloc (Nat.le_refl _) (.cells #[.int .i64 P, .int .i64 C, .int .i64 K] 28))
  have w1 : IntKind.i64.wrap (P - 10) = P - 10 := IntWalk.i64_in _ (by omega)
  obtain rfl | rfl | ⟨h1, h2⟩ : P = 2 ∨ P = 15 ∨ (P ≠ 2 ∧ P ≠ 15) := by omega
  · go_enter Try.func26, Try.ntmps26
    go_wp2_with fail
    go_ret
    exact ⟨rfl, HB1.out⟩
  · go_enter Try.func26, Try.ntmps26
    go_wp2_with fail
    go_ret
    exact ⟨rfl, HB1.out⟩
  · have e1 : (P == 2) = false := beq_eq_false_iff_ne.2 h1
    have e2 : (P == 15) = false := beq_eq_false_iff_ne.2 h2
    have he : tagZ P = P - 10 := by rw [tagZ, if_neg h1, if_neg h2]
    rw [he]
    go_enter Try.func26, Try.ntmps26
    go_wp2_with fail
    go_ret
    exact ⟨rfl, HB1.out⟩
set_option maxHeartbeats 2000000 in
theorem pMay (P C K : Int) (w : World) : Calls Try.prog 12 #[shV P C K] w fun e w' => e = .returned (.bool (mayZ P C K)) ∧ Below w.heap.size w w' := by
  have HT := Lib.hid (fun n a b W => withinC n a b W)
  go_enter Try.func12, Try.ntmps12
  go_wp2_with (go_at_call 20; with_reducible refine (HT.out _ _ _ _).mono ?_; (rintro r w7 ⟨rfl, rfl⟩); dsimp only)
  all_goals
    go_ret
    refine ⟨ret_bool ?_, (Below.refl _ _).alloc (Nat.le_refl _) _⟩
    unfold mayZ
    first
      | (exact (decide_eq_true (by omega)).symm)
      | (exact (decide_eq_false (by omega)).symm)
      | (rw [← Bool.decide_and]; exact decide_eq_decide.2 (by omega))
      | (exact decide_eq_decide.2 (by omega))
end Go.Proofs.Ytagkjndiifcekaa
