/- What the methods Next, Seek and Take of package cursor's Cursor answer, and where the cursor stands behind them. -/
import Derived.Test.YtffmdlknkimlhaaCur
import Derived.StillTailTactics
namespace Go.Proofs.Ytffmdlknkimlhaa
open Go.RowKit
set_option linter.unusedVariables false

theorem new_any (A : Option Addr) (n c : Nat) (w : World) :
    Calls Try.prog 9 #[.slice A n c] w fun e w' => e = .returned (.pointer (some ⟨w.heap.size, 0, none⟩)) ∧ w' = w.alloc (.cells #[.slice A n c, .int .i64 (0 : Nat)] 48) := by
  go_enter Try.func9, Try.ntmps9
  go_wp2
  go_ret
  exact ⟨rfl, rfl⟩

theorem next_in (g n c p B : Nat) (A : Option Addr) (zs : List Int) (w : World) (h : Cur w g A n c p) (hb : Byt w B A n c zs) (hp : p < n) (hn : n ≤ 1000000) :
    Calls Try.prog 10 #[.pointer (some ⟨g, 0, none⟩)] w fun e w' => e = .returned (.int .i64 (peekZ zs p)) ∧ Cur w' g A n c (p + 1) ∧ Only g w w' := by
  have H := Lib.hid h
  have hl := hb.len
  have e1 := peekZ_in zs p (by omega)
  have hr := hb.getD p
  rw [← e1] at hr
  have hpk := fun W (hW : Cur W g A n c p) (hB : Byt W B A n c zs) => peek_in g n c p B A zs 0 p W hW hB (by omega) hn (by omega) hp
  have HPK := Lib.hid hpk
  have HB := Lib.hid hb
  obtain ⟨z, hz⟩ : ∃ z, peekZ zs p = z := ⟨_, rfl⟩
  rw [hz] at hr
  have HZ := Lib.hid hz
  obtain ⟨r0, r1⟩ := hr
  have r2 : (z : Int) ≥ 0 := r0
  have h1 := h.c1
  have hf := h.fr 1
  clear hpk hb hz hl e1
  go_enter Try.func10, Try.ntmps10
  go_wp2_with (go_at_call 11; refine (HPK.out _ h HB.out).mono ?_; rintro e w' ⟨rfl, k, hk⟩; subst hk; rw [HZ.out])
  go_ret
  exact ⟨ret_int HZ.out.symm, (h.setI (p + 1) _ (by omega)).drewN k, ((Only.refl _ _).drewN k).set_ _ _⟩

theorem next_out (g n c : Nat) (A : Option Addr) (zs : List Int) (w : World) (h : Cur w g A n c n) (hl : zs.length = n) (hn : n ≤ 1000000) :
    Calls Try.prog 10 #[.pointer (some ⟨g, 0, none⟩)] w fun e w' => e = .returned (.int .i64 (-1)) ∧ w = w' := by
  have HPK := Lib.hid (peek_out g n c n A zs 0 w h hl (by omega) hn (by omega))
  clear hl h
  go_enter Try.func10, Try.ntmps10
  go_wp2_with (go_at_call 11; refine HPK.out.mono ?_; rintro e w' ⟨rfl, rfl⟩)
  go_ret
  exact ⟨rfl, rfl⟩

theorem seek_in (g n c p q : Nat) (A : Option Addr) (w : World) (h : Cur w g A n c p) (hq : q ≤ n) (hn : n ≤ 1000000) :
    Calls Try.prog 26 #[.pointer (some ⟨g, 0, none⟩), .int .i64 q] w fun e w' => e = .returned (.bool true) ∧ Cur w' g A n c q ∧ Only g w w' := by
  have HL := Lib.hid (len_any g n c p A w h)
  have h1 := h.c1
  have hf := h.fr 1
  go_enter Try.func26, Try.ntmps26
  go_wp2_with (go_at_call 17; refine HL.out.mono ?_; rintro e w' ⟨rfl, rfl⟩)
  go_ret
  exact ⟨rfl, h.setI q _ rfl, (Only.refl _ _).set_ _ _⟩

theorem seek_out (g n c p : Nat) (q : Int) (A : Option Addr) (w : World) (h : Cur w g A n c p) (hq : q < 0 ∨ (n : Int) < q) (hn : n ≤ 1000000) :
    Calls Try.prog 26 #[.pointer (some ⟨g, 0, none⟩), .int .i64 q] w fun e w' => e = .returned (.bool false) ∧ w = w' := by
  have HL := Lib.hid (len_any g n c p A w h)
  rcases hq with hq | hq
  · go_enter Try.func26, Try.ntmps26
    go_wp2_with (go_at_call 17; refine HL.out.mono ?_; rintro e w' ⟨rfl, rfl⟩)
    go_ret
    exact ⟨rfl, rfl⟩
  · have hq0 : ¬ q < 0 := by omega
    go_enter Try.func26, Try.ntmps26
    go_wp2_with (go_at_call 17; refine HL.out.mono ?_; rintro e w' ⟨rfl, rfl⟩)
    go_ret
    exact ⟨rfl, rfl⟩

theorem take_out (g n c p : Nat) (m : Int) (A : Option Addr) (w : World) (h : Cur w g A n c p) (hp : p ≤ n) (hm : m < 0 ∨ (n : Int) - p < m) (hn : n ≤ 1000000) :
    Calls Try.prog 23 #[.pointer (some ⟨g, 0, none⟩), .int .i64 m] w fun e w' => e = .returned (.tuple #[.slice none 0 0, .bool false]) ∧ w = w' := by
  have HL := Lib.hid (left_any g n c p A w h hp (by omega))
  rcases hm with hm | hm
  · go_enter Try.func23, Try.ntmps23
    go_wp2_with (go_at_call 18; refine HL.out.mono ?_; rintro e w' ⟨rfl, rfl⟩)
    go_ret2
    exact ⟨rfl, rfl⟩
  · have hq0 : ¬ m < 0 := by omega
    go_enter Try.func23, Try.ntmps23
    go_wp2_with (go_at_call 18; refine HL.out.mono ?_; rintro e w' ⟨rfl, rfl⟩)
    go_ret2
    exact ⟨rfl, rfl⟩

/-- bytes.Clone, whatever the address. -/
theorem clone_any (A : Option Addr) (n c B : Nat) (zs : List Int) (w : World) (h : Byt w B A n c zs) (hn : n ≤ 1000000) (hB : B ≤ w.heap.size) :
    Calls Try.prog 32 #[.slice A n c] w fun e w' => ∃ A' c', e = .returned (.slice A' n c') ∧ Byt w' w'.heap.size A' n c' zs ∧ From w.heap.size A' n ∧ Below w.heap.size w w' := by
  rcases A with _ | a
  · have h0 : n = 0 := by
      rcases Nat.eq_zero_or_pos n with h0 | h0
      · exact h0
      · obtain ⟨b, o, e, _⟩ := h.cell h0
        cases e
    subst h0
    have hz : zs = [] := List.eq_nil_of_length_eq_zero h.len
    subst hz
    exact (Try.bytes_Clone_nil 0 c w).mono fun e w' ⟨he, hw⟩ => ⟨none, 0, he, ⟨rfl, Nat.le_refl _, by simp, fun h => absurd h (by omega)⟩, fun h => absurd h (by omega), by rw [hw]; exact Below.refl _ _⟩
  · refine (Try.bytes_Clone_at a n c zs w h.len (by omega) (fun i hi => ?_)).mono fun e w' ⟨v', he, hown, _, hb⟩ => ?_
    · obtain ⟨b, o, e, _, hc⟩ := h.cell (by omega)
      injection e with e
      subst e
      have e2 : (⟨b, o, none⟩ : Addr).add i = ⟨b, o + i, none⟩ := by unfold Addr.add; split <;> simp_all
      rw [e2]; exact hc i hi
    · rcases hown.2 with ⟨rfl, h0⟩ | ⟨g', cap, cur, rfl, hg', hh, hnc, hrest⟩
      · subst h0
        have hz : zs = [] := List.eq_nil_of_length_eq_zero h.len
        subst hz
        exact ⟨none, 0, he, ⟨rfl, Nat.le_refl _, by simp, fun h => absurd h (by omega)⟩, fun h => absurd h (by omega), hb⟩
      · refine ⟨some ⟨g', 0, none⟩, cap, he, ⟨h.len, hnc, h.rng, fun h0 => ?_⟩, fun _ b o e => by injection e with e; injection e with e; omega, hb⟩
        have hcl := hown.cells (g := g') rfl
        obtain ⟨_, _, hv, _, hlt⟩ := hown.form h0
        refine ⟨g', 0, rfl, ?_, fun i hi => ?_⟩
        · injection hv with hv; injection hv with hv; injection hv with hv; omega
        · have hci := hcl i (.int .u8 (zs.getD i 0)) (by simp [List.getD, h.len, hi])
          have e2 : (⟨g', 0, none⟩ : Addr).add i = ⟨g', 0 + i, none⟩ := by unfold Addr.add; split <;> simp_all
          rw [← e2]; exact hci

/-- Take, where there are so many: it is walked up to the region that copies, the region by its own, and the rest. -/
theorem take_in (g n c p m B : Nat) (A : Option Addr) (zs : List Int) (w : World) (h : Cur w g A n c p) (hb : Byt w B A n c zs) (hm : p + m ≤ n) (hn : n ≤ 1000000) (hB : B ≤ g) :
    Calls Try.prog 23 #[.pointer (some ⟨g, 0, none⟩), .int .i64 m] w fun e w' => ∃ A' c', e = .returned (.tuple #[.slice A' m c', .bool true]) ∧ Byt w' w'.heap.size A' m c' ((zs.drop p).take m) ∧ From w.heap.size A' m ∧ Cur w' g A n c (p + m) ∧ Only g w w' := by
  have HL := Lib.hid (left_any g n c p A w h (by omega) (by omega))
  have HC := Lib.hid (fun W (hW : Byt W B (cutA A c p) m (c - p) ((zs.drop p).take m)) (hB : B ≤ W.heap.size) => clone_any _ _ _ _ _ W hW (by omega) hB)
  have HB := Lib.hid hb
  have HS := Lib.hid (fun W => run_cut2 (P := Try.prog) W 25 5 Try.underlying25 (fun w => by kernel_rfl) A n c p m (by have := hb.cap; omega))
  have h1 := h.c1
  have h0 := h.c0
  have hf := h.fr 1
  have b1 : ¬ (m : Int) < 0 := by omega
  have b2 : ¬ (n : Int) - p < m := by omega
  go_enter Try.func23, Try.ntmps23
  go_wp2_with (go_at_call 18; refine HL.out.mono ?_; rintro e w' ⟨rfl, rfl⟩)
  have hsl := HS.out
  have ew : IntKind.i64.wrap ((p : Int) + m) = (p : Int) + m := IntWalk.i64_in _ (by omega)
  go_still_tail 15, (by kernel_rfl)
  clear ew hsl
  change wpList _ _ _ _ _ (w.drewN 1)
  go_wp2_with (go_at_call 32; refine (HC.out _ ((HB.out.drewN 1).cut (by omega)) (by have := h.lt; simp; omega)).mono ?_; rintro e w2 ⟨A2, c2, rfl, hby, hfrom, hbel⟩; have H2 : Cur w2 g A n c p := Cur.below (h.drewN 1) hbel h.lt; have h21 := H2.c1; have hf2 := H2.fr 1)
  go_ret2
  have hbel2 : Only g w w2 := ((Only.refl g w).drewN 1).trans (Only.of_below hbel g)
  have HW : Cur (w2.setCell ⟨g, 1, none⟩ (.int .i64 ((p : Int) + m))) g A n c (p + m) := H2.setI (p + m) _ (by omega)
  refine ⟨A2, c2, rfl, ?_, hfrom, HW, hbel2.set_ _ _⟩
  have hs : (w2.setCell ⟨g, 1, none⟩ (.int .i64 ((p : Int) + m))).heap.size = w2.heap.size := by simp [World.setCell]
  have hby' := hby.set_ hfrom (show g < _ from h.lt) 1 (.int .i64 ((p : Int) + m))
  rw [← hs] at hby'
  exact hby'
end Go.Proofs.Ytffmdlknkimlhaa
