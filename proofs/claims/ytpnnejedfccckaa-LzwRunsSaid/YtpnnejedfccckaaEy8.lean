/- Chapter 8, the project's own writer: enter, row. -/
import Derived.Test.YtpnnejedfccckaaEx8
namespace Go.Proofs.Ytpnnejedfccckaa
open Go.RowKit
set_option linter.unusedVariables false
set_option maxRecDepth 100000

theorem WS.put (w0 : World) {g B n told : Nat} {bs : List Nat} {L : List Int} {F : Nat → Int → Option Nat} {w : World} (h : WS w0 w g B bs L n F told) (row v : Nat) (x : Int) (hr : row ≤ 100000) (x0 : 0 ≤ x) (x1 : x < 256) (hv : v ≤ 100000) (hn : n ≤ 100000) :
    ∃ w', (Instr.mapUpdate 45 (.map (some B)) (.agg #[.int .i64 (row : Int), .int .u8 x]) (.int .i64 (v : Int))).run Try.prog w = .ok () w' ∧ WS w0 w' g B bs L (n + 1) (updF F row x v) told := by
  obtain ⟨w', hrun, hm, ho⟩ := h.tab.put row v x hr x0 x1 hv hn
  exact ⟨w', hrun, h.tabbed hm ho⟩
theorem build_link (r : Nat) (c : Int) : (Instr.build 79 #[(0, .int .i64 (r : Int)), (1, .int .u8 c)]).run Try.prog = fun W => .ok (kyV r c) W := by
  funext W
  exact run_build W _ _ _ (by kernel_rfl)
set_option maxHeartbeats 1000000 in
theorem enterW (w0 : World) (g B n told row : Nat) (x : Int) (bs : List Nat) (L : List Int) (F : Nat → Int → Option Nat) (w : World) (h : WS w0 w g B bs L n F told) (hr : row < 5000) (x0 : 0 ≤ x) (x1 : x < 256) (hn : n ≤ 4000) (ht : told ≤ 3839) (hL : L.length ≤ 600000000) (hf : frS told ≠ 4095) :
    Calls Try.prog 30 #[.pointer (some ⟨g, 0, none⟩), .int .i64 row, .int .u8 x] w fun r w' => r = .returned (.tuple #[]) ∧ WS w0 w' g B bs L (n + 1) (updF F row x (frS told)) told := by
  have hfr : 258 ≤ frS told ∧ frS told ≤ 4096 := by unfold frS; omega
  have HFR := Lib.hid (freeC w0 g B n told bs L F w h (by omega))
  have HP := Lib.hid (h.put w0 row (frS told) x (by omega) x0 x1 (by omega) (by omega))
  have c0 := h.c0
  have hbd : (Instr.build 79 #[(0, .int .i64 (row : Int)), (1, .int .u8 x)]).run Try.prog = fun W => .ok (.agg #[.int .i64 (row : Int), .int .u8 x]) W := build_link row x
  obtain ⟨FR, hFR⟩ : ∃ FR, frS told = FR := ⟨_, rfl⟩
  rw [hFR] at HFR HP hf hfr ⊢
  have t0 : ((FR : Int) == 4095) = false := beq_eq_false_iff_ne.2 (by omega)
  clear hFR h
  go_enter Try.func30, Try.ntmps30
  go_wp2_with (first
    | (go_at_call 32; refine HFR.out.mono ?_; (rintro r w1 ⟨rfl, rfl⟩))
    | (obtain ⟨w2, hrun, hw2⟩ := HP.out; refine wpList_mapUpdate_run rfl (.tmp 12) (.tmp 15) (.tmp 16) 45 rfl _ _ _ rfl rfl rfl hrun ?_; have HW2 := Lib.hid hw2; clear hw2 hrun))
  (try simp only [Exit.inBlock, Exit.then])
  refine ⟨rfl, _, results_none rfl _ _ _, ?_⟩
  exact ⟨rfl, HW2.out⟩
set_option maxHeartbeats 1000000 in
theorem enterF (w0 : World) (g B n told row : Nat) (x : Int) (bs : List Nat) (L : List Int) (F : Nat → Int → Option Nat) (w : World) (h : WS w0 w g B bs L n F told) (hr : row < 5000) (x0 : 0 ≤ x) (x1 : x < 256) (hn : n ≤ 4000) (ht : told ≤ 3839) (hL : L.length ≤ 600000000) (hf : frS told = 4095) :
    Calls Try.prog 30 #[.pointer (some ⟨g, 0, none⟩), .int .i64 row, .int .u8 x] w fun r w' => r = .returned (.tuple #[]) ∧ ∃ bs', WS w0 w' g B bs' (L ++ hiB 256 (wdZ (frS told))) 0 (fun _ _ => none) 0 := by
  have HFR := Lib.hid (freeC w0 g B n told bs L F w h (by omega))
  have HP := Lib.hid (h.put w0 row (frS told) x (by omega) x0 x1 (by omega) (by omega))
  have c0 := h.c0
  have hbd : (Instr.build 79 #[(0, .int .i64 (row : Int)), (1, .int .u8 x)]).run Try.prog = fun W => .ok (.agg #[.int .i64 (row : Int), .int .u8 x]) W := build_link row x
  have HBG := Lib.hid (fun F2 W (hW : WS w0 W g B bs L (n + 1) F2 told) => beginW w0 g B (n + 1) told bs L F2 W hW ht hL)
  rw [hf] at HFR HP HBG ⊢
  rw [show ((4095 : Nat) : Int) = 4095 from rfl] at HFR HP
  clear h
  go_enter Try.func30, Try.ntmps30
  go_wp2_with (first
    | (go_at_call 32; refine HFR.out.mono ?_; (rintro r w1 ⟨rfl, rfl⟩))
    | (obtain ⟨w2, hrun, hw2⟩ := HP.out; refine wpList_mapUpdate_run rfl (.tmp 12) (.tmp 15) (.tmp 16) 45 rfl _ _ _ rfl rfl rfl hrun ?_; have HW2 := Lib.hid hw2; clear hw2 hrun)
    | (go_at_call 16; refine (HBG.out _ _ HW2.out).mono ?_; (rintro r w3 ⟨rfl, bs3, hw3⟩); have HW3 := Lib.hid hw3; clear hw3))
  (try simp only [Exit.inBlock, Exit.then])
  refine ⟨rfl, _, results_none rfl _ _ _, ?_⟩
  exact ⟨rfl, bs3, HW3.out⟩
end Go.Proofs.Ytpnnejedfccckaa
