/- What the document's own Add (of chapter 2) answers. -/
import Derived.Test.YtlpehpajfinjkaaDoorRef2Reck
namespace Go.Proofs.YtlpehpajfinjkaaDoor
open Go.RowKit
set_option linter.unusedVariables false

/-- The slice '.slice A n c' holds the int64s zs; where there is one, it lies below block B. -/
structure Ints (w : World) (B : Nat) (A : Option Addr) (n c : Nat) (zs : List Int) : Prop where
  len : zs.length = n
  cap : n ≤ c
  cell : 0 < n → ∃ b o, A = some ⟨b, o, none⟩ ∧ b < B ∧ ∀ i, i < n → w.cell? ⟨b, o + i, none⟩ = some (.int .i64 (zs.getD i 0))
theorem Ints.below {w w' : World} {B B' n c : Nat} {A : Option Addr} {zs : List Int} (h : Ints w B A n c zs) (hb : Below B' w w') (hB : B ≤ B') : Ints w' B A n c zs :=
  ⟨h.len, h.cap, fun hn => by
    obtain ⟨b, o, e, hlt, hc⟩ := h.cell hn
    exact ⟨b, o, e, hlt, fun i hi => (hb.cell (p := ⟨b, o + i, none⟩) (Nat.lt_of_lt_of_le hlt hB)).trans (hc i hi)⟩⟩

/-- The sum from acc on; none: a summand or a sum on the way may not be. -/
def addS (acc : Int) : List Int → Option Int
  | [] => some acc
  | x :: r => if inB x = true ∧ inB (acc + x) = true then addS (acc + x) r else none
def AddOut (r : Option Int) (w : World) (e : Ending) (w' : World) : Prop := (e = match r with | some v => .returned (.tuple #[.int .i64 v, .bool true]) | none => .returned (.tuple #[.int .i64 0, .bool false])) ∧ w = w'
theorem addS_drop (acc : Int) (zs : List Int) (k : Nat) (h : k < zs.length) : addS acc (zs.drop k) = if inB (zs.getD k 0) = true ∧ inB (acc + zs.getD k 0) = true then addS (acc + zs.getD k 0) (zs.drop (k + 1)) else none := by
  rw [List.drop_eq_getElem_cons h]
  have e : zs.getD k 0 = zs[k] := by simp [List.getD, h]
  rw [e]
  rfl

set_option maxHeartbeats 1000000 in
theorem refAdd (A : Option Addr) (n c B : Nat) (zs : List Int) (w : World) (hz : Ints w B A n c zs) (hn : n ≤ 9223372036854775807) :
    Calls Tryd.prog 23 #[.slice A n c] w (AddOut (addS 0 zs) w) := by
  have HZ := Lib.hid hz
  clear hz
  go_enter Tryd.func23, Tryd.ntmps23
  go_wp2
  go_loop [4, 5] (fun s i => ∃ (k : Nat) (acc : Int), k ≤ n ∧ i = .int .i64 k ∧ s = .int .i64 acc ∧ inB acc = true ∧ Hid (addS 0 zs = addS acc (zs.drop k))) (fun _ i => n - (intOf i).toNat)
  case atStart => exact ⟨0, 0, Nat.zero_le _, rfl, rfl, by decide, rfl⟩
  case round =>
    obtain ⟨k, acc, hk, rfl, rfl, hacc, hs⟩ := hrel
    have hab := (inB_iff acc).1 hacc
    by_cases hlt : k < n
    · obtain ⟨b, o, rfl, _, hc⟩ := HZ.out.cell (by omega)
      have ck := hc k hlt
      have hd := addS_drop acc zs k (by rw [HZ.out.len]; exact hlt)
      obtain ⟨x, hx⟩ : ∃ x, zs.getD k 0 = x := ⟨_, rfl⟩
      rw [hx] at ck hd
      have HD := Lib.hid hd
      clear hc hx hd
      obtain ⟨a1, a2⟩ := hab
      by_cases hx1 : -214748364799999 ≤ x ∧ x ≤ 214748364799999
      · obtain ⟨x1, x2⟩ := hx1
        by_cases hs1 : -214748364799999 ≤ acc + x ∧ acc + x ≤ 214748364799999
        · obtain ⟨s1, s2⟩ := hs1
          have HX := Lib.hid (fun W => refIn_yes x W x1 x2)
          have HS := Lib.hid (fun W => refIn_yes (acc + x) W s1 s2)
          have HR : Hid (addS 0 zs = addS (acc + x) (zs.drop (k + 1))) := Lib.hid (by rw [hs.out, HD.out, if_pos ⟨inB_true x1 x2, inB_true s1 s2⟩])
          have HI := Lib.hid (inB_true s1 s2)
          clear hacc
          go_wp2_with (first
            | (go_at_call 19; (with_reducible refine (HX.out _).mono ?_); rintro e w' ⟨rfl, rfl⟩)
            | (go_at_call 19; (with_reducible refine (HS.out _).mono ?_); rintro e w' ⟨rfl, rfl⟩))
          go_round
          case rel => exact ⟨k + 1, acc + x, by omega, by go_num, rfl, HI.out, HR⟩
          case measure => simp [intOf]; omega
        · have HX := Lib.hid (fun W => refIn_yes x W x1 x2)
          have HS := Lib.hid (fun W => refIn_no (acc + x) W (by omega))
          have HR : Hid (addS 0 zs = none) := Lib.hid (by rw [hs.out, HD.out, if_neg (fun h => by rw [inB_false (n := acc + x) (by omega)] at h; exact absurd h.2 (by simp))])
          clear hacc hs1
          go_wp2_with (first
            | (go_at_call 19; (with_reducible refine (HX.out _).mono ?_); rintro e w' ⟨rfl, rfl⟩)
            | (go_at_call 19; (with_reducible refine (HS.out _).mono ?_); rintro e w' ⟨rfl, rfl⟩))
          go_ret2
          exact ⟨by rw [HR.out]; rfl, rfl⟩
      · have HX := Lib.hid (fun W => refIn_no x W (by omega))
        have HR : Hid (addS 0 zs = none) := Lib.hid (by rw [hs.out, HD.out, if_neg (fun h => by rw [inB_false (n := x) (by omega)] at h; exact absurd h.1 (by simp))])
        clear hacc hx1
        go_wp2_with (first
          | (go_at_call 19; (with_reducible refine (HX.out _).mono ?_); rintro e w' ⟨rfl, rfl⟩))
        go_ret2
        exact ⟨by rw [HR.out]; rfl, rfl⟩
    · have HR : Hid (addS 0 zs = some acc) := Lib.hid (by rw [hs.out, List.drop_of_length_le (by rw [HZ.out.len]; omega)]; rfl)
      clear hacc hab
      go_wp2
      go_ret2
      exact ⟨by rw [HR.out]; rfl, rfl⟩
end Go.Proofs.YtlpehpajfinjkaaDoor
