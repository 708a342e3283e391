/- Chapter 3's laws ask a known sum first. -/
import Derived.Test.YtfmbbeaojkhmjaaSm3
import Derived.Test.YtfmbbeaojkhmjaaOpenK
import Derived.Test.YtfmbbeaojkhmjaaLit
namespace Go.Proofs.Ytfmbbeaojkhmjaa
open Go.RowKit
set_option linter.unusedVariables false

theorem adler1 {W : World} {b n c : Nat} {A : Option Addr} {zs : List Int} (hlt : b < W.heap.size) (hc : W.cell? ⟨b, 0, none⟩ = some (.slice A n c)) (hb : Byt W W.heap.size A n c zs) (hn : n ≤ 1000000) (cc : Nat) :
    Calls Try.prog 7 #[.slice (some ⟨b, 0, none⟩) 1 cc] W fun e w' => e = .returned (.int .u32 (moreV 1 zs)) ∧ Below W.heap.size W w' :=
  smAdler _ 1 cc _ _ _ _ W (parts1 hlt hc hb) (by omega) (fun i hi => by obtain rfl : i = 0 := by omega
                                                                         exact hn)
theorem adler2 {W : World} {b n c n' c' : Nat} {A A' : Option Addr} {zs zs' : List Int} (hlt : b < W.heap.size) (hc : W.cell? ⟨b, 0, none⟩ = some (.slice A n c)) (hc' : W.cell? ⟨b, 1, none⟩ = some (.slice A' n' c')) (hb : Byt W W.heap.size A n c zs) (hb' : Byt W W.heap.size A' n' c' zs') (hn : n ≤ 1000000) (hn' : n' ≤ 1000000) (cc : Nat) :
    Calls Try.prog 7 #[.slice (some ⟨b, 0, none⟩) 2 cc] W fun e w' => e = .returned (.int .u32 (moreV 1 (zs ++ zs'))) ∧ Below W.heap.size W w' :=
  smAdler _ 2 cc _ _ _ _ W (parts2 hlt hc hc' hb hb') (by omega) (fun i hi => by
    obtain rfl | rfl : i = 0 ∨ i = 1 := by omega
    · exact hn
    · exact hn')
/-- A slice of one part: a row that is there. -/
theorem adler_one (w : World) (A : Option Addr) (n c : Nat) (zs : List Int) (hb : Byt w w.heap.size A n c zs) (hn : n ≤ 1000000) (fr : Nat × Nat) (r : Int) (hr : moreV 1 zs = r) :
    Calls Try.prog 7 #[.slice (some ⟨w.heap.size, 0, none⟩) 1 1] (w.alloc (.cells #[.slice A n c] 25 fr)) fun e w' => e = .returned (.int .u32 r) ∧ Below w.heap.size w w' := by
  rw [← hr]
  have hs : w.heap.size < (w.alloc (.cells #[.slice A n c] 25 fr)).heap.size := by simp
  have hc : (w.alloc (.cells #[.slice A n c] 25 fr)).cell? ⟨w.heap.size, 0, none⟩ = some (.slice A n c) := by rw [World.cell?_alloc_mark]; rfl
  exact (adler1 hs hc ((hb.alloc (Nat.le_refl _) _).more (Nat.le_of_lt hs)) hn 1).mono fun e w' ⟨he, h⟩ => ⟨he, ((Below.refl _ w).alloc (Nat.le_refl _) _).trans (h.mono (Nat.le_of_lt hs))⟩
theorem awake_any (w : World) : Calls Try.prog 6 #[] w fun e w' => e = .returned (.bool true) ∧ Below w.heap.size w w' := by
  have kc := fun (w : World) (C : Array Value) (n c : Nat) => Lib.run_convert_bytes_const (P := Try.prog) w 25 5 C n c Try.underlying25 Try.underlying5
  obtain ⟨W1, hW1⟩ : ∃ W1, W1 = w.alloc (.cells #[.int .u8 87, .int .u8 105, .int .u8 107, .int .u8 105, .int .u8 112, .int .u8 101, .int .u8 100, .int .u8 105, .int .u8 97] 5 (9, 10)) := ⟨_, rfl⟩
  have hby : Byt W1 W1.heap.size (some ⟨w.heap.size, 0, none⟩) 9 9 [87, 105, 107, 105, 112, 101, 100, 105, 97] := by rw [hW1]; exact (byt_lit w (9, 10) [87, 105, 107, 105, 112, 101, 100, 105, 97] (by decide) 9 rfl _ rfl).more (by rw [World.size_alloc]; exact Nat.le_refl _)
  have hA := adler_one W1 _ 9 9 _ hby (by omega) (0, 0) 300286872 (by decide)
  have hsz : W1.heap.size = w.heap.size + 1 := by rw [hW1]; simp
  rw [hsz] at hA
  have HA := Lib.hid hA
  have HW1 := Lib.hid hW1

  clear hA hW1 hby hsz
  go_enter Try.func6, Try.ntmps6
  go_wp2_with (first
    | (go_at_call 7; rw [← HW1.out]; refine HA.out.mono ?_; rintro e w2 ⟨rfl, hb2⟩))
  go_ret
  exact ⟨rfl, (show Below w.heap.size w W1 by rw [HW1.out]; exact (Below.refl _ _).alloc (Nat.le_refl _) _).trans (hb2.mono (by omega))⟩
end Go.Proofs.Ytfmbbeaojkhmjaa
