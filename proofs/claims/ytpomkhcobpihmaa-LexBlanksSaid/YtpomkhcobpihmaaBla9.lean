/- Contracts of functions that the law calls, and what they lean on (a part). -/
import Derived.Test.YtpomkhcobpihmaaShelf
import Derived.Outline
import Derived.Deep.DeepFit
import Derived.Deep.QuietTactic
import Derived.BigQuiet
import Derived.WalkSpells
import Derived.StillTailTactics
import Derived.LoopTactic
import Derived.Test.YtpomkhcobpihmaaBla1
namespace Go.Proofs.Ytpomkhcobpihmaa
section
open Go.RowKit
set_option linter.unusedVariables false
set_option maxRecDepth 100000
/-- Block g is a cursor over the slice '.slice A n c', at the place p. -/
def Cur (w : World) (g : Nat) (A : Option Addr) (n c p : Nat) : Prop := w.heap[g]? = some (.cells #[.slice A n c, .int .i64 p] 105 (0, 0))
section
variable {w w' : World} {g n c p B : Nat} {A : Option Addr}
theorem Cur.lt (h : Cur w g A n c p) : g < w.heap.size := by
  rcases Nat.lt_or_ge g w.heap.size with hlt | hge
  · exact hlt
  · unfold Cur at h; rw [Array.getElem?_eq_none hge] at h; cases h
theorem Cur.c0 (h : Cur w g A n c p) : w.cell? ⟨g, 0, none⟩ = some (.slice A n c) := by rw [cell_of_row w g 0 _ 105 (0, 0) h]; rfl
theorem Cur.c1 (h : Cur w g A n c p) : w.cell? ⟨g, 1, none⟩ = some (.int .i64 p) := by rw [cell_of_row w g 1 _ 105 (0, 0) h]; rfl
theorem Cur.fr (h : Cur w g A n c p) (i : Nat) : w.frozen? ⟨g, i, none⟩ = false := by
  unfold Cur at h
  simp [World.frozen?, h]
theorem Cur.new (w : World) : Cur (w.alloc (.cells #[.slice A n c, .int .i64 (0 : Nat)] 105)) w.heap.size A n c 0 := heap_alloc_new w _
theorem Cur.drewN (h : Cur w g A n c p) (k : Nat) : Cur (w.drewN k) g A n c p := h
theorem Cur.below (h : Cur w g A n c p) (hb : Below B w w') (hg : g < B) : Cur w' g A n c p := (hb.block g hg).trans h
theorem Cur.set_ (h : Cur w g A n c p) (q : Nat) : Cur (w.setCell ⟨g, 1, none⟩ (.int .i64 q)) g A n c q := by
  unfold Cur at h ⊢
  simp [World.setCell, Array.getElem?_modify, h]
end
theorem Cur.setI {w : World} {g n c p : Nat} {A : Option Addr} (h : Cur w g A n c p) (q : Nat) (z : Int) (hz : z = q) : Cur (w.setCell ⟨g, 1, none⟩ (.int .i64 z)) g A n c q := by
  subst hz; exact h.set_ q
theorem pos_any (g n c p : Nat) (A : Option Addr) (w : World) (h : Cur w g A n c p) :
    Calls Try.prog 61 #[.pointer (some ⟨g, 0, none⟩)] w fun e w' => e = .returned (.int .i64 p) ∧ w = w' := by
  have h1 := h.c1
  go_enter Try.func61, Try.ntmps61
  go_wp2
  go_ret
  exact ⟨rfl, rfl⟩
theorem len_any (g n c p : Nat) (A : Option Addr) (w : World) (h : Cur w g A n c p) :
    Calls Try.prog 97 #[.pointer (some ⟨g, 0, none⟩)] w fun e w' => e = .returned (.int .i64 n) ∧ w = w' := by
  have h0 := h.c0
  go_enter Try.func97, Try.ntmps97
  go_wp2
  go_ret
  exact ⟨rfl, rfl⟩
theorem left_any (g n c p : Nat) (A : Option Addr) (w : World) (h : Cur w g A n c p) (hp : p ≤ n) (hn : n ≤ 9223372036854775807) :
    Calls Try.prog 109 #[.pointer (some ⟨g, 0, none⟩)] w fun e w' => e = .returned (.int .i64 ((n : Int) - p)) ∧ w = w' := by
  go_enter Try.func109, Try.ntmps109
  go_wp2_with (first
    | (go_at_call 61; refine (pos_any _ _ _ _ _ _ h).mono ?_; rintro e w' ⟨rfl, rfl⟩)
    | (go_at_call 97; refine (len_any _ _ _ _ _ _ h).mono ?_; rintro e w' ⟨rfl, rfl⟩))
  go_ret
  exact ⟨rfl, rfl⟩
/-- Peek, where there is a byte. -/
theorem peek_in (g n c p B : Nat) (A : Option Addr) (zs : List Int) (i : Int) (q : Nat) (w : World) (h : Cur w g A n c p) (hb : Byt w B A n c zs) (hp : p ≤ n) (hn : n ≤ 1000000) (hq : (q : Int) = p + i) (hqn : q < n) :
    Calls Try.prog 87 #[.pointer (some ⟨g, 0, none⟩), .int .i64 i] w fun e w' => e = .returned (.int .i64 (peekZ zs q)) ∧ ∃ k, w' = w.drewN k := by
  obtain ⟨b, o, rfl, _, hc⟩ := hb.cell (by omega)
  have hci := hc q hqn
  have hr := hb.getD q
  have hl := hb.len
  have e1 := peekZ_in zs q (by omega)
  obtain ⟨z, hz⟩ : ∃ z, zs.getD q 0 = z := ⟨_, rfl⟩
  rw [hz] at hci hr e1
  have E1 := Lib.hid e1
  obtain ⟨r0, r1⟩ := hr
  have h0 := h.c0
  have h1 := h.c1
  have b1 : -(p : Int) ≤ i := by omega
  have b2 : i < (n : Int) - p := by omega
  have eq1 : (p : Int) + i = (q : Int) := hq.symm
  clear e1 hl hc hq hb hz
  have ew : IntKind.i64.wrap ((p : Int) + i) = (q : Int) := by rw [eq1]; exact IntWalk.i64_in _ (by omega)
  have ez : IntKind.i64.wrap z = z := IntWalk.i64_in _ (by omega)
  have EW := Lib.hid ew
  have EQ := Lib.hid eq1
  have EZ := Lib.hid ez
  clear ew eq1 ez
  go_enter Try.func87, Try.ntmps87
  go_wp2_with (first
    | (go_at_call 61; refine (pos_any _ _ _ _ _ _ h).mono ?_; rintro e w' ⟨rfl, rfl⟩)
    | (go_at_call 109; refine (left_any _ _ _ _ _ _ h (by omega) (by omega)).mono ?_; rintro e w' ⟨rfl, rfl⟩))
  have ew := EW.out
  have eq1 := EQ.out
  have ez := EZ.out
  go_quiet (fail)
  go_wp2
  go_ret
  exact ⟨ret_int E1.out.symm, _, rfl⟩
/-- Peek, where there is none. -/
theorem peek_out (g n c p : Nat) (A : Option Addr) (zs : List Int) (i : Int) (w : World) (h : Cur w g A n c p) (hl : zs.length = n) (hp : p ≤ n) (hn : n ≤ 1000000) (hi : i < -(p : Int) ∨ (n : Int) - p ≤ i) :
    Calls Try.prog 87 #[.pointer (some ⟨g, 0, none⟩), .int .i64 i] w fun e w' => e = .returned (.int .i64 (-1)) ∧ w = w' := by
  clear hl
  rcases hi with hi | hi
  all_goals
    go_enter Try.func87, Try.ntmps87
    go_wp2_with (first
      | (go_at_call 61; refine (pos_any _ _ _ _ _ _ h).mono ?_; rintro e w' ⟨rfl, rfl⟩)
      | (go_at_call 109; refine (left_any _ _ _ _ _ _ h (by omega) (by omega)).mono ?_; rintro e w' ⟨rfl, rfl⟩))
    go_ret
    exact ⟨rfl, rfl⟩
theorem peek_any (g n c p B : Nat) (A : Option Addr) (zs : List Int) (i : Int) (w : World) (h : Cur w g A n c p) (hb : Byt w B A n c zs) (hp : p ≤ n) (hn : n ≤ 1000000) :
    Calls Try.prog 87 #[.pointer (some ⟨g, 0, none⟩), .int .i64 i] w fun e w' => e = .returned (.int .i64 (peekZ zs (p + i))) ∧ ∃ k, w' = w.drewN k := by
  by_cases hi : i < -(p : Int) ∨ (n : Int) - p ≤ i
  · rw [peekZ_out zs (p + i) (by rw [hb.len]; omega)]
    exact (peek_out g n c p A zs i w h hb.len hp hn hi).mono fun e w' ⟨he, hw⟩ => ⟨he, 0, hw.symm⟩
  · have e : (p : Int) + i = (((p : Int) + i).toNat : Nat) := by omega
    rw [e]
    exact peek_in g n c p B A zs i _ w h hb hp hn (by omega) (by omega)
theorem new_any (A : Option Addr) (n c : Nat) (w : World) :
    Calls Try.prog 59 #[.slice A n c] w fun e w' => e = .returned (.pointer (some ⟨w.heap.size, 0, none⟩)) ∧ w' = w.alloc (.cells #[.slice A n c, .int .i64 (0 : Nat)] 105) := by
  go_enter Try.func59, Try.ntmps59
  go_wp2
  go_ret
  exact ⟨rfl, rfl⟩
theorem next_in (g n c p B : Nat) (A : Option Addr) (zs : List Int) (w : World) (h : Cur w g A n c p) (hb : Byt w B A n c zs) (hp : p < n) (hn : n ≤ 1000000) :
    Calls Try.prog 113 #[.pointer (some ⟨g, 0, none⟩)] w fun e w' => e = .returned (.int .i64 (peekZ zs p)) ∧ Cur w' g A n c (p + 1) ∧ Only g w w' := by
  have H := Lib.hid h
  have hl := hb.len
  have e1 := peekZ_in zs p (by omega)
  have hr := hb.getD p
  rw [← e1] at hr
  have hpk := fun W (hW : Cur W g A n c p) (hB : Byt W B A n c zs) => peek_in g n c p B A zs 0 p W hW hB (by omega) hn (by omega) hp
  have HPK := Lib.hid hpk
  have HB := Lib.hid hb
  obtain ⟨z, hz⟩ : ∃ z, peekZ zs p = z := ⟨_, rfl⟩
  rw [hz] at hr
  have HZ := Lib.hid hz
  obtain ⟨r0, r1⟩ := hr
  have r2 : (z : Int) ≥ 0 := r0
  have h1 := h.c1
  have hf := h.fr 1
  clear hpk hb hz hl e1
  go_enter Try.func113, Try.ntmps113
  go_wp2_with (go_at_call 87; refine (HPK.out _ h HB.out).mono ?_; rintro e w' ⟨rfl, k, hk⟩; subst hk; rw [HZ.out])
  go_ret
  exact ⟨ret_int HZ.out.symm, (h.setI (p + 1) _ (by omega)).drewN k, ((Only.refl _ _).drewN k).set_ _ _⟩
theorem next_out (g n c : Nat) (A : Option Addr) (zs : List Int) (w : World) (h : Cur w g A n c n) (hl : zs.length = n) (hn : n ≤ 1000000) :
    Calls Try.prog 113 #[.pointer (some ⟨g, 0, none⟩)] w fun e w' => e = .returned (.int .i64 (-1)) ∧ w = w' := by
  have HPK := Lib.hid (peek_out g n c n A zs 0 w h hl (by omega) hn (by omega))
  clear hl h
  go_enter Try.func113, Try.ntmps113
  go_wp2_with (go_at_call 87; refine HPK.out.mono ?_; rintro e w' ⟨rfl, rfl⟩)
  go_ret
  exact ⟨rfl, rfl⟩
theorem seek_in (g n c p q : Nat) (A : Option Addr) (w : World) (h : Cur w g A n c p) (hq : q ≤ n) (hn : n ≤ 1000000) :
    Calls Try.prog 63 #[.pointer (some ⟨g, 0, none⟩), .int .i64 q] w fun e w' => e = .returned (.bool true) ∧ Cur w' g A n c q ∧ Only g w w' := by
  have HL := Lib.hid (len_any g n c p A w h)
  have h1 := h.c1
  have hf := h.fr 1
  go_enter Try.func63, Try.ntmps63
  go_wp2_with (go_at_call 97; refine HL.out.mono ?_; rintro e w' ⟨rfl, rfl⟩)
  go_ret
  exact ⟨rfl, h.setI q _ rfl, (Only.refl _ _).set_ _ _⟩
/-- bytes.Clone, whatever the address. -/
theorem clone_any (A : Option Addr) (n c B : Nat) (zs : List Int) (w : World) (h : Byt w B A n c zs) (hn : n ≤ 1000000) (hB : B ≤ w.heap.size) :
    Calls Try.prog 123 #[.slice A n c] w fun e w' => ∃ A' c', e = .returned (.slice A' n c') ∧ Byt w' w'.heap.size A' n c' zs ∧ From w.heap.size A' n ∧ Below w.heap.size w w' := by
  rcases A with _ | a
  · have h0 : n = 0 := by
      rcases Nat.eq_zero_or_pos n with h0 | h0
      · exact h0
      · obtain ⟨b, o, e, _⟩ := h.cell h0
        cases e
    subst h0
    have hz : zs = [] := List.eq_nil_of_length_eq_zero h.len
    subst hz
    exact (Try.bytes_Clone_nil 0 c w).mono fun e w' ⟨he, hw⟩ => ⟨none, 0, he, ⟨rfl, Nat.le_refl _, by simp, fun h => absurd h (by omega)⟩, fun h => absurd h (by omega), by rw [hw]; exact Below.refl _ _⟩
  · refine (Try.bytes_Clone_at a n c zs w h.len (by omega) (fun i hi => ?_)).mono fun e w' ⟨v', he, hown, _, hb⟩ => ?_
    · obtain ⟨b, o, e, _, hc⟩ := h.cell (by omega)
      injection e with e
      subst e
      have e2 : (⟨b, o, none⟩ : Addr).add i = ⟨b, o + i, none⟩ := by unfold Addr.add; split <;> simp_all
      rw [e2]; exact hc i hi
    · rcases hown.2 with ⟨rfl, h0⟩ | ⟨g', cap, cur, rfl, hg', hh, hnc, hrest⟩
      · subst h0
        have hz : zs = [] := List.eq_nil_of_length_eq_zero h.len
        subst hz
        exact ⟨none, 0, he, ⟨rfl, Nat.le_refl _, by simp, fun h => absurd h (by omega)⟩, fun h => absurd h (by omega), hb⟩
      · refine ⟨some ⟨g', 0, none⟩, cap, he, ⟨h.len, hnc, h.rng, fun h0 => ?_⟩, fun _ b o e => by injection e with e; injection e with e; omega, hb⟩
        have hcl := hown.cells (g := g') rfl
        obtain ⟨_, _, hv, _, hlt⟩ := hown.form h0
        refine ⟨g', 0, rfl, ?_, fun i hi => ?_⟩
        · injection hv with hv; injection hv with hv; injection hv with hv; omega
        · have hci := hcl i (.int .u8 (zs.getD i 0)) (by simp [List.getD, h.len, hi])
          have e2 : (⟨g', 0, none⟩ : Addr).add i = ⟨g', 0 + i, none⟩ := by unfold Addr.add; split <;> simp_all
          rw [← e2]; exact hci
/-- Take, where there are so many: it is walked up to the region that copies, the region by its own, and the rest. -/
theorem take_in (g n c p m B : Nat) (A : Option Addr) (zs : List Int) (w : World) (h : Cur w g A n c p) (hb : Byt w B A n c zs) (hm : p + m ≤ n) (hn : n ≤ 1000000) (hB : B ≤ g) :
    Calls Try.prog 110 #[.pointer (some ⟨g, 0, none⟩), .int .i64 m] w fun e w' => ∃ A' c', e = .returned (.tuple #[.slice A' m c', .bool true]) ∧ Byt w' w'.heap.size A' m c' ((zs.drop p).take m) ∧ From w.heap.size A' m ∧ Cur w' g A n c (p + m) ∧ Only g w w' := by
  have HL := Lib.hid (left_any g n c p A w h (by omega) (by omega))
  have HC := Lib.hid (fun W (hW : Byt W B (cutA A c p) m (c - p) ((zs.drop p).take m)) (hB : B ≤ W.heap.size) => clone_any _ _ _ _ _ W hW (by omega) hB)
  have HB := Lib.hid hb
  have HS := Lib.hid (fun W => run_cut2 (P := Try.prog) W 23 5 Try.underlying23 (fun w => by kernel_rfl) A n c p m (by have := hb.cap; omega))
  have h1 := h.c1
  have h0 := h.c0
  have hf := h.fr 1
  have b1 : ¬ (m : Int) < 0 := by omega
  have b2 : ¬ (n : Int) - p < m := by omega
  go_enter Try.func110, Try.ntmps110
  go_wp2_with (go_at_call 109; refine HL.out.mono ?_; rintro e w' ⟨rfl, rfl⟩)
  have hsl := HS.out
  have ew : IntKind.i64.wrap ((p : Int) + m) = (p : Int) + m := IntWalk.i64_in _ (by omega)
  go_still_tail 15, (by kernel_rfl)
  clear ew hsl
  change wpList _ _ _ _ _ (w.drewN 1)
  go_wp2_with (go_at_call 123; refine (HC.out _ ((HB.out.drewN 1).cut (by omega)) (by have := h.lt; simp; omega)).mono ?_; rintro e w2 ⟨A2, c2, rfl, hby, hfrom, hbel⟩; have H2 : Cur w2 g A n c p := Cur.below (h.drewN 1) hbel h.lt; have h21 := H2.c1; have hf2 := H2.fr 1)
  go_ret2
  have hbel2 : Only g w w2 := ((Only.refl g w).drewN 1).trans (Only.of_below hbel g)
  have HW : Cur (w2.setCell ⟨g, 1, none⟩ (.int .i64 ((p : Int) + m))) g A n c (p + m) := H2.setI (p + m) _ (by omega)
  refine ⟨A2, c2, rfl, ?_, hfrom, HW, hbel2.set_ _ _⟩
  have hs : (w2.setCell ⟨g, 1, none⟩ (.int .i64 ((p : Int) + m))).heap.size = w2.heap.size := by simp [World.setCell]
  have hby' := hby.set_ hfrom (show g < _ from h.lt) 1 (.int .i64 ((p : Int) + m))
  rw [← hs] at hby'
  exact hby'
theorem match_no (g n c p : Nat) (A : Option Addr) (zs : List Int) (s : ByteArray) (w : World) (h : Cur w g A n c p) (hl : zs.length = n) (hp : p ≤ n) (hn : n ≤ 1000000) (hs : s.size ≤ 9223372036854775807) (hno : n < p + s.size) :
    Calls Try.prog 93 #[.pointer (some ⟨g, 0, none⟩), .string s] w fun e w' => e = .returned (.bool false) ∧ ∃ k, w' = w.drewN k := by
  clear hl
  have hL := fun k => left_any g n c p A (w.drewN k) (h.drewN k) hp (by omega)
  have HL := Lib.hid hL
  clear hL
  have hd : decide ((n : Int) - p < (s.size : Int)) = true := decide_eq_true (by omega)
  go_enter Try.func93, Try.ntmps93
  go_wp2_with fail
  go_quiet ((go_at_call 109; exact quietL (HL.out _)))
  go_wp2
  go_ret
  exact ⟨rfl, _, rfl⟩
theorem match_diff (g n c p B : Nat) (A : Option Addr) (zs : List Int) (s : ByteArray) (w : World) (h : Cur w g A n c p) (hb : Byt w B A n c zs) (hn : n ≤ 1000000) (hp : p + s.size ≤ n) (hst : stB zs p s = false) :
    Calls Try.prog 93 #[.pointer (some ⟨g, 0, none⟩), .string s] w fun e w' => e = .returned (.bool false) ∧ ∃ k, w' = w.drewN k := by
  rw [stB_yes zs p s (by rw [hb.len]; exact hp)] at hst
  have hL := fun k => left_any g n c p A (w.drewN k) (h.drewN k) (by omega) (by omega)
  have HL := Lib.hid hL
  have hcv := fun W (hW : Byt W B A n c zs) => (hW.cut hp).inn.convert (P := Try.prog) (hW.cut hp).len (c - p) 23 5 9 Try.underlying23 Try.underlying5 Try.underlying9
  obtain ⟨T, hT⟩ : ∃ T, strOfNums ((zs.drop p).take s.size) = T := ⟨_, rfl⟩
  rw [hT] at hcv hst
  have hw := fun k => hcv (w.drewN k) (hb.drewN k)
  have hsl := fun W => run_cut2 (P := Try.prog) W 23 5 Try.underlying23 (fun w => by kernel_rfl) A n c p s.size (by have := hb.cap; omega)
  have h0 := h.c0
  have h1 := h.c1
  have ew : IntKind.i64.wrap ((p : Int) + s.size) = (p : Int) + s.size := IntWalk.i64_in _ (by omega)
  have hd : decide ((n : Int) - p < (s.size : Int)) = false := decide_eq_false (by omega)
  clear hL hT hcv hb
  go_enter Try.func93, Try.ntmps93
  go_wp2_with fail
  go_quiet ((go_at_call 109; exact quietL (HL.out _)))
  go_wp2
  go_ret
  exact ⟨rfl, _, rfl⟩
theorem match_yes (g n c p B : Nat) (A : Option Addr) (zs : List Int) (s : ByteArray) (w : World) (h : Cur w g A n c p) (hb : Byt w B A n c zs) (hn : n ≤ 1000000) (hp : p + s.size ≤ n) (hst : stB zs p s = true) :
    Calls Try.prog 93 #[.pointer (some ⟨g, 0, none⟩), .string s] w fun e w' => e = .returned (.bool true) ∧ Cur w' g A n c (p + s.size) ∧ Only g w w' := by
  rw [stB_yes zs p s (by rw [hb.len]; exact hp)] at hst
  have hL := fun k => left_any g n c p A (w.drewN k) (h.drewN k) (by omega) (by omega)
  have HL := Lib.hid hL
  have hcv := fun W (hW : Byt W B A n c zs) => (hW.cut hp).inn.convert (P := Try.prog) (hW.cut hp).len (c - p) 23 5 9 Try.underlying23 Try.underlying5 Try.underlying9
  obtain ⟨T, hT⟩ : ∃ T, strOfNums ((zs.drop p).take s.size) = T := ⟨_, rfl⟩
  rw [hT] at hcv hst
  have hw := fun k => hcv (w.drewN k) (hb.drewN k)
  have hsl := fun W => run_cut2 (P := Try.prog) W 23 5 Try.underlying23 (fun w => by kernel_rfl) A n c p s.size (by have := hb.cap; omega)
  have h0 := h.c0
  have h1 := h.c1
  have hf := h.fr 1
  have ew : IntKind.i64.wrap ((p : Int) + s.size) = (p : Int) + s.size := IntWalk.i64_in _ (by omega)
  have hd : decide ((n : Int) - p < (s.size : Int)) = false := decide_eq_false (by omega)
  clear hL hT hcv hb
  go_enter Try.func93, Try.ntmps93
  go_wp2_with fail
  go_quiet ((go_at_call 109; exact quietL (HL.out _)))
  go_wp2
  go_ret
  exact ⟨rfl, (h.drewN _).setI (p + s.size) _ (by omega), ((Only.refl _ _).drewN _).set_ _ _⟩
end
end Go.Proofs.Ytpomkhcobpihmaa
