/- What the method Match of package cursor's Cursor answers, and where the cursor stands behind it; what the document's own Stands answers. -/
import Derived.Test.YtffmdlknkimlhaaCurB
namespace Go.Proofs.Ytffmdlknkimlhaa
open Go.RowKit
set_option linter.unusedVariables false

theorem refStands_no (A : Option Addr) (n c : Nat) (zs : List Int) (p : Int) (s : ByteArray) (w : World) (hl : zs.length = n) (hn : n ≤ 1000000) (hs : s.size ≤ 1000000) (hp : p < 0 ∨ (n : Int) < p + s.size) :
    Calls Try.prog 30 #[.slice A n c, .int .i64 p, .string s] w fun e w' => e = .returned (.bool false) ∧ w = w' := by
  clear hl
  by_cases h1 : p < 0
  · go_enter Try.func30, Try.ntmps30
    go_wp2
    go_ret
    exact ⟨rfl, rfl⟩
  · by_cases h2 : n < s.size
    · go_enter Try.func30, Try.ntmps30
      go_wp2
      go_ret
      exact ⟨rfl, rfl⟩
    · have h3 : (n : Int) - s.size < p := by omega
      go_enter Try.func30, Try.ntmps30
      go_wp2
      go_ret
      exact ⟨rfl, rfl⟩

theorem refStands_no2 (A : Option Addr) (n c : Nat) (zs : List Int) (p : Nat) (s : ByteArray) (w : World) (hl : zs.length = n) (hn : n ≤ 1000000) (hs : s.size ≤ 9223372036854775807) (hp : n < p + s.size) :
    Calls Try.prog 30 #[.slice A n c, .int .i64 p, .string s] w fun e w' => e = .returned (.bool false) ∧ w = w' := by
  by_cases h2 : s.size ≤ n
  · exact refStands_no A n c zs p s w hl hn (by omega) (by omega)
  · have h1 : ¬ (p : Int) < 0 := by omega
    have h3 : n < s.size := by omega
    clear hl h2
    go_enter Try.func30, Try.ntmps30
    go_wp2
    go_ret
    exact ⟨rfl, rfl⟩

theorem refStands_at (A : Option Addr) (n c B : Nat) (zs : List Int) (p : Nat) (s : ByteArray) (w : World) (hb : Byt w B A n c zs) (hn : n ≤ 1000000) (hp : p + s.size ≤ n) :
    Calls Try.prog 30 #[.slice A n c, .int .i64 p, .string s] w fun e w' => e = .returned (.bool (stB zs p s)) ∧ w = w' := by
  have HS := Lib.hid (stB_yes zs p s (by rw [hb.len]; exact hp))
  have hcv := fun W (hW : Byt W B A n c zs) => (hW.cut hp).inn.convert (P := Try.prog) (hW.cut hp).len (c - p) 25 5 9 Try.underlying25 Try.underlying5 Try.underlying9
  obtain ⟨T, hT⟩ : ∃ T, strOfNums ((zs.drop p).take s.size) = T := ⟨_, rfl⟩
  rw [hT] at hcv
  have hw := hcv w hb
  have hsl := fun W => run_cut2 (P := Try.prog) W 25 5 Try.underlying25 (fun w => by kernel_rfl) A n c p s.size (by have := hb.cap; omega)
  have HT := Lib.hid hT
  clear hT hcv hb
  have h1 : ¬ (p : Int) < 0 := by omega
  have h2 : ¬ n < s.size := by omega
  have h3 : ¬ (n : Int) - s.size < p := by omega
  go_enter Try.func30, Try.ntmps30
  go_wp2
  go_ret
  exact ⟨ret_bool (by rw [HS.out, HT.out]), rfl⟩

theorem match_no (g n c p : Nat) (A : Option Addr) (zs : List Int) (s : ByteArray) (w : World) (h : Cur w g A n c p) (hl : zs.length = n) (hp : p ≤ n) (hn : n ≤ 1000000) (hs : s.size ≤ 9223372036854775807) (hno : n < p + s.size) :
    Calls Try.prog 12 #[.pointer (some ⟨g, 0, none⟩), .string s] w fun e w' => e = .returned (.bool false) ∧ ∃ k, w' = w.drewN k := by
  clear hl
  have hL := fun k => left_any g n c p A (w.drewN k) (h.drewN k) hp (by omega)
  have HL := Lib.hid hL
  clear hL
  have hd : decide ((n : Int) - p < (s.size : Int)) = true := decide_eq_true (by omega)
  go_enter Try.func12, Try.ntmps12
  go_wp2_with fail
  go_quiet ((go_at_call 18; exact quietL (HL.out _)))
  go_wp2
  go_ret
  exact ⟨rfl, _, rfl⟩

theorem match_diff (g n c p B : Nat) (A : Option Addr) (zs : List Int) (s : ByteArray) (w : World) (h : Cur w g A n c p) (hb : Byt w B A n c zs) (hn : n ≤ 1000000) (hp : p + s.size ≤ n) (hst : stB zs p s = false) :
    Calls Try.prog 12 #[.pointer (some ⟨g, 0, none⟩), .string s] w fun e w' => e = .returned (.bool false) ∧ ∃ k, w' = w.drewN k := by
  rw [stB_yes zs p s (by rw [hb.len]; exact hp)] at hst
  have hL := fun k => left_any g n c p A (w.drewN k) (h.drewN k) (by omega) (by omega)
  have HL := Lib.hid hL
  have hcv := fun W (hW : Byt W B A n c zs) => (hW.cut hp).inn.convert (P := Try.prog) (hW.cut hp).len (c - p) 25 5 9 Try.underlying25 Try.underlying5 Try.underlying9
  obtain ⟨T, hT⟩ : ∃ T, strOfNums ((zs.drop p).take s.size) = T := ⟨_, rfl⟩
  rw [hT] at hcv hst
  have hw := fun k => hcv (w.drewN k) (hb.drewN k)
  have hsl := fun W => run_cut2 (P := Try.prog) W 25 5 Try.underlying25 (fun w => by kernel_rfl) A n c p s.size (by have := hb.cap; omega)
  have h0 := h.c0
  have h1 := h.c1
  have ew : IntKind.i64.wrap ((p : Int) + s.size) = (p : Int) + s.size := IntWalk.i64_in _ (by omega)
  have hd : decide ((n : Int) - p < (s.size : Int)) = false := decide_eq_false (by omega)
  clear hL hT hcv hb
  go_enter Try.func12, Try.ntmps12
  go_wp2_with fail
  go_quiet ((go_at_call 18; exact quietL (HL.out _)))
  go_wp2
  go_ret
  exact ⟨rfl, _, rfl⟩

theorem match_yes (g n c p B : Nat) (A : Option Addr) (zs : List Int) (s : ByteArray) (w : World) (h : Cur w g A n c p) (hb : Byt w B A n c zs) (hn : n ≤ 1000000) (hp : p + s.size ≤ n) (hst : stB zs p s = true) :
    Calls Try.prog 12 #[.pointer (some ⟨g, 0, none⟩), .string s] w fun e w' => e = .returned (.bool true) ∧ Cur w' g A n c (p + s.size) ∧ Only g w w' := by
  rw [stB_yes zs p s (by rw [hb.len]; exact hp)] at hst
  have hL := fun k => left_any g n c p A (w.drewN k) (h.drewN k) (by omega) (by omega)
  have HL := Lib.hid hL
  have hcv := fun W (hW : Byt W B A n c zs) => (hW.cut hp).inn.convert (P := Try.prog) (hW.cut hp).len (c - p) 25 5 9 Try.underlying25 Try.underlying5 Try.underlying9
  obtain ⟨T, hT⟩ : ∃ T, strOfNums ((zs.drop p).take s.size) = T := ⟨_, rfl⟩
  rw [hT] at hcv hst
  have hw := fun k => hcv (w.drewN k) (hb.drewN k)
  have hsl := fun W => run_cut2 (P := Try.prog) W 25 5 Try.underlying25 (fun w => by kernel_rfl) A n c p s.size (by have := hb.cap; omega)
  have h0 := h.c0
  have h1 := h.c1
  have hf := h.fr 1
  have ew : IntKind.i64.wrap ((p : Int) + s.size) = (p : Int) + s.size := IntWalk.i64_in _ (by omega)
  have hd : decide ((n : Int) - p < (s.size : Int)) = false := decide_eq_false (by omega)
  clear hL hT hcv hb
  go_enter Try.func12, Try.ntmps12
  go_wp2_with fail
  go_quiet ((go_at_call 18; exact quietL (HL.out _)))
  go_wp2
  go_ret
  exact ⟨rfl, (h.drewN _).setI (p + s.size) _ (by omega), ((Only.refl _ _).drewN _).set_ _ _⟩

end Go.Proofs.Ytffmdlknkimlhaa
