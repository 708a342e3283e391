/- What the document's own More, Adler (chapter 3) and Copy answer. -/
import Derived.Test.YtginbilakdenmaaOwn
namespace Go.Proofs.Ytginbilakdenmaa
open Go.RowKit
set_option linter.unusedVariables false
set_option maxRecDepth 100000

/-- The two halves, byte by byte. -/
def stepA (x y : Int) : List Int → Int × Int
  | [] => (x, y)
  | z :: r => stepA ((x + z) % 65521) ((y + (x + z) % 65521) % 65521) r
def moreV (s : Int) (zs : List Int) : Int := (stepA (s % 65536 % 65521) (s / 65536 % 65521) zs).2 * 65536 + (stepA (s % 65536 % 65521) (s / 65536 % 65521) zs).1
theorem stepA_bd : ∀ (zs : List Int) (x y : Int), 0 ≤ x → x < 65521 → 0 ≤ y → y < 65521 → 0 ≤ (stepA x y zs).1 ∧ (stepA x y zs).1 < 65521 ∧ 0 ≤ (stepA x y zs).2 ∧ (stepA x y zs).2 < 65521
  | [], x, y, h1, h2, h3, h4 => ⟨h1, h2, h3, h4⟩
  | z :: r, x, y, h1, h2, h3, h4 => stepA_bd r _ _ (by omega) (by omega) (by omega) (by omega)
theorem stepA_app : ∀ (a b : List Int) (x y : Int), stepA x y (a ++ b) = stepA (stepA x y a).1 (stepA x y a).2 b
  | [], b, x, y => rfl
  | z :: r, b, x, y => by rw [List.cons_append, stepA, stepA]; exact stepA_app r b _ _
theorem moreV_bd (s : Int) (zs : List Int) : 0 ≤ moreV s zs ∧ moreV s zs ≤ 4294967295 := by
  have h := stepA_bd zs (s % 65536 % 65521) (s / 65536 % 65521) (by omega) (by omega) (by omega) (by omega)
  unfold moreV; omega
theorem moreV_app (s : Int) (a b : List Int) : moreV (moreV s a) b = moreV s (a ++ b) := by
  have h := stepA_bd a (s % 65536 % 65521) (s / 65536 % 65521) (by omega) (by omega) (by omega) (by omega)
  have e1 : moreV s a % 65536 % 65521 = (stepA (s % 65536 % 65521) (s / 65536 % 65521) a).1 := by unfold moreV; omega
  have e2 : moreV s a / 65536 % 65521 = (stepA (s % 65536 % 65521) (s / 65536 % 65521) a).2 := by unfold moreV; omega
  show (stepA (moreV s a % 65536 % 65521) (moreV s a / 65536 % 65521) b).2 * 65536 + (stepA (moreV s a % 65536 % 65521) (moreV s a / 65536 % 65521) b).1 = _
  rw [e1, e2, ← stepA_app]
  rfl

set_option maxRecDepth 100000 in
theorem refMore (s : Int) (A : Option Addr) (n c B : Nat) (zs : List Int) (w : World) (h0 : 0 ≤ s) (h1 : s ≤ 4294967295) (hb : Byt w B A n c zs) (hn : n ≤ 9223372036854775807) :
    Calls Try.prog 54 #[.int .u32 s, .slice A n c] w fun e w' => e = .returned (.int .u32 (moreV s zs)) ∧ w = w' := by
  have HB := Lib.hid hb
  obtain ⟨X, hX⟩ : ∃ X, s % 65536 % 65521 = X := ⟨_, rfl⟩
  obtain ⟨Y, hY⟩ : ∃ Y, s / 65536 % 65521 = Y := ⟨_, rfl⟩
  have hm : moreV s zs = (stepA X Y zs).2 * 65536 + (stepA X Y zs).1 := by unfold moreV; rw [hX, hY]
  have HM := Lib.hid hm
  have x0 : 0 ≤ X := by omega
  have x1 : X < 65521 := by omega
  have y0 : 0 ≤ Y := by omega
  have y1 : Y < 65521 := by omega
  clear hb hm
  go_enter Try.func54, Try.ntmps54
  go_wp2
  go_loop [5, 6, 7] (fun x y i => ∃ (k : Nat) (a b : Int), k ≤ n ∧ i = .int .i64 k ∧ x = .int .u32 a ∧ y = .int .u32 b ∧ 0 ≤ a ∧ a < 65521 ∧ 0 ≤ b ∧ b < 65521 ∧ Hid (stepA X Y zs = stepA a b (zs.drop k))) (fun _ _ i => n - (intOf i).toNat)
  case atStart => exact ⟨0, X, Y, Nat.zero_le _, rfl, by first | rfl | exact int_eq hX, by first | rfl | exact int_eq hY, x0, x1, y0, y1, rfl⟩
  case round =>
    obtain ⟨k, a, b, hk, rfl, rfl, rfl, a0, a1, b0, b1, hs⟩ := hrel
    by_cases hlt : k < n
    · obtain ⟨bk, o, rfl, _, hc⟩ := HB.out.cell (by omega)
      have ck := hc k hlt
      have hgz := HB.out.getD k
      have hdr : zs.drop k = zs.getD k 0 :: zs.drop (k + 1) := by
        have hl : k < zs.length := by rw [HB.out.len]; exact hlt
        rw [List.drop_eq_getElem_cons hl]; simp [List.getD, hl]
      obtain ⟨z, hz⟩ : ∃ z, zs.getD k 0 = z := ⟨_, rfl⟩
      rw [hz] at ck hgz hdr
      obtain ⟨z0, z1⟩ := hgz
      have HS : Hid (stepA X Y zs = stepA ((a + z) % 65521) ((b + (a + z) % 65521) % 65521) (zs.drop (k + 1))) := Lib.hid (by rw [hs.out, hdr, stepA])
      clear hc hz hdr
      go_wp2
      go_round
      case rel => exact ⟨k + 1, _, _, by omega, by go_num, rfl, rfl, by omega, by omega, by omega, by omega, HS⟩
      case measure => simp [intOf] <;> omega
    · have HS : Hid (stepA X Y zs = (a, b)) := Lib.hid (by rw [hs.out, List.drop_of_length_le (by rw [HB.out.len]; omega)]; rfl)
      go_wp2
      go_ret
      exact ⟨ret_int (by rw [HM.out, HS.out]), rfl⟩
theorem refAdler (A : Option Addr) (n c B : Nat) (zs : List Int) (w : World) (hb : Byt w B A n c zs) (hn : n ≤ 9223372036854775807) :
    Calls Try.prog 42 #[.slice A n c] w fun e w' => e = .returned (.int .u32 (moreV 1 zs)) ∧ w = w' := by
  have HR := Lib.hid (fun W (h : Byt W B A n c zs) => refMore 1 A n c B zs W (by omega) (by omega) h hn)
  go_enter Try.func42, Try.ntmps42
  go_wp2_with (go_at_call 54; refine (HR.out _ hb).mono ?_; rintro e w' ⟨rfl, rfl⟩)
  go_ret
  exact ⟨rfl, rfl⟩
end Go.Proofs.Ytginbilakdenmaa
