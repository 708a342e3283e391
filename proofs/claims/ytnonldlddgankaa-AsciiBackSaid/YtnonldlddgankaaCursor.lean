/- What New and the methods of package cursor's Cursor answer, and where the cursor stands behind them. -/
import Derived.Test.YtnonldlddgankaaBytes
import Derived.Outline
import Derived.Deep.DeepFit
import Derived.Deep.QuietTactic
import Derived.BigQuiet
import Derived.WalkSpells
import Derived.StillTailTactics
import Derived.LoopTactic
namespace Go.Proofs.Ytnonldlddgankaa
open Go.RowKit
set_option linter.unusedVariables false

/-- Block g is a cursor over the slice '.slice A n c', at the place p. -/
def Cur (w : World) (g : Nat) (A : Option Addr) (n c p : Nat) : Prop := w.heap[g]? = some (.cells #[.slice A n c, .int .i64 p] 68 (0, 0))

section
variable {w w' : World} {g n c p B : Nat} {A : Option Addr}
theorem Cur.lt (h : Cur w g A n c p) : g < w.heap.size := by
  rcases Nat.lt_or_ge g w.heap.size with hlt | hge
  · exact hlt
  · unfold Cur at h; rw [Array.getElem?_eq_none hge] at h; cases h

theorem Cur.c0 (h : Cur w g A n c p) : w.cell? ⟨g, 0, none⟩ = some (.slice A n c) := by rw [cell_of_row w g 0 _ 68 (0, 0) h]; rfl

theorem Cur.c1 (h : Cur w g A n c p) : w.cell? ⟨g, 1, none⟩ = some (.int .i64 p) := by rw [cell_of_row w g 1 _ 68 (0, 0) h]; rfl

theorem Cur.fr (h : Cur w g A n c p) (i : Nat) : w.frozen? ⟨g, i, none⟩ = false := by
  unfold Cur at h
  simp [World.frozen?, h]

theorem Cur.new (w : World) : Cur (w.alloc (.cells #[.slice A n c, .int .i64 (0 : Nat)] 68)) w.heap.size A n c 0 := heap_alloc_new w _

theorem Cur.drewN (h : Cur w g A n c p) (k : Nat) : Cur (w.drewN k) g A n c p := h

theorem Cur.below (h : Cur w g A n c p) (hb : Below B w w') (hg : g < B) : Cur w' g A n c p := (hb.block g hg).trans h

theorem Cur.set_ (h : Cur w g A n c p) (q : Nat) : Cur (w.setCell ⟨g, 1, none⟩ (.int .i64 q)) g A n c q := by
  unfold Cur at h ⊢
  simp [World.setCell, Array.getElem?_modify, h]

end

theorem Cur.setI {w : World} {g n c p : Nat} {A : Option Addr} (h : Cur w g A n c p) (q : Nat) (z : Int) (hz : z = q) : Cur (w.setCell ⟨g, 1, none⟩ (.int .i64 z)) g A n c q := by
  subst hz; exact h.set_ q

theorem Cur.only {w w' : World} {g h n c p : Nat} {A : Option Addr} (hc : Cur w h A n c p) (ho : Only g w w') (hne : h ≠ g) : Cur w' h A n c p := (ho.block h hc.lt hne).trans hc

theorem pos_any (g n c p : Nat) (A : Option Addr) (w : World) (h : Cur w g A n c p) :
    Calls Try.prog 40 #[.pointer (some ⟨g, 0, none⟩)] w fun e w' => e = .returned (.int .i64 p) ∧ w = w' := by
  have h1 := h.c1
  go_enter Try.func40, Try.ntmps40
  go_wp2
  go_ret
  exact ⟨rfl, rfl⟩

theorem len_any (g n c p : Nat) (A : Option Addr) (w : World) (h : Cur w g A n c p) :
    Calls Try.prog 39 #[.pointer (some ⟨g, 0, none⟩)] w fun e w' => e = .returned (.int .i64 n) ∧ w = w' := by
  have h0 := h.c0
  go_enter Try.func39, Try.ntmps39
  go_wp2
  go_ret
  exact ⟨rfl, rfl⟩

theorem left_any (g n c p : Nat) (A : Option Addr) (w : World) (h : Cur w g A n c p) (hp : p ≤ n) (hn : n ≤ 9223372036854775807) :
    Calls Try.prog 27 #[.pointer (some ⟨g, 0, none⟩)] w fun e w' => e = .returned (.int .i64 ((n : Int) - p)) ∧ w = w' := by
  go_enter Try.func27, Try.ntmps27
  go_wp2_with (first
    | (go_at_call 40; refine (pos_any _ _ _ _ _ _ h).mono ?_; rintro e w' ⟨rfl, rfl⟩)
    | (go_at_call 39; refine (len_any _ _ _ _ _ _ h).mono ?_; rintro e w' ⟨rfl, rfl⟩))
  go_ret
  exact ⟨rfl, rfl⟩

/-- Peek, where there is a byte. -/
theorem peek_in (g n c p B : Nat) (A : Option Addr) (zs : List Int) (i : Int) (q : Nat) (w : World) (h : Cur w g A n c p) (hb : Byt w B A n c zs) (hp : p ≤ n) (hn : n ≤ 1000000) (hq : (q : Int) = p + i) (hqn : q < n) :
    Calls Try.prog 46 #[.pointer (some ⟨g, 0, none⟩), .int .i64 i] w fun e w' => e = .returned (.int .i64 (peekZ zs q)) ∧ ∃ k, w' = w.drewN k := by
  obtain ⟨b, o, rfl, _, hc⟩ := hb.cell (by omega)
  have hci := hc q hqn
  have hr := hb.getD q
  have hl := hb.len
  have e1 := peekZ_in zs q (by omega)
  obtain ⟨z, hz⟩ : ∃ z, zs.getD q 0 = z := ⟨_, rfl⟩
  rw [hz] at hci hr e1
  have E1 := Lib.hid e1
  obtain ⟨r0, r1⟩ := hr
  have h0 := h.c0
  have h1 := h.c1
  have b1 : -(p : Int) ≤ i := by omega
  have b2 : i < (n : Int) - p := by omega
  have eq1 : (p : Int) + i = (q : Int) := hq.symm
  clear e1 hl hc hq hb hz
  have ew : IntKind.i64.wrap ((p : Int) + i) = (q : Int) := by rw [eq1]; exact IntWalk.i64_in _ (by omega)
  have ez : IntKind.i64.wrap z = z := IntWalk.i64_in _ (by omega)
  have EW := Lib.hid ew
  have EQ := Lib.hid eq1
  have EZ := Lib.hid ez
  clear ew eq1 ez
  go_enter Try.func46, Try.ntmps46
  go_wp2_with (first
    | (go_at_call 40; refine (pos_any _ _ _ _ _ _ h).mono ?_; rintro e w' ⟨rfl, rfl⟩)
    | (go_at_call 27; refine (left_any _ _ _ _ _ _ h (by omega) (by omega)).mono ?_; rintro e w' ⟨rfl, rfl⟩))
  have ew := EW.out
  have eq1 := EQ.out
  have ez := EZ.out
  go_quiet (fail)
  go_wp2
  go_ret
  exact ⟨ret_int E1.out.symm, _, rfl⟩

/-- Peek, where there is none. -/
theorem peek_out (g n c p : Nat) (A : Option Addr) (zs : List Int) (i : Int) (w : World) (h : Cur w g A n c p) (hl : zs.length = n) (hp : p ≤ n) (hn : n ≤ 1000000) (hi : i < -(p : Int) ∨ (n : Int) - p ≤ i) :
    Calls Try.prog 46 #[.pointer (some ⟨g, 0, none⟩), .int .i64 i] w fun e w' => e = .returned (.int .i64 (-1)) ∧ w = w' := by
  clear hl
  rcases hi with hi | hi
  all_goals
    go_enter Try.func46, Try.ntmps46
    go_wp2_with (first
      | (go_at_call 40; refine (pos_any _ _ _ _ _ _ h).mono ?_; rintro e w' ⟨rfl, rfl⟩)
      | (go_at_call 27; refine (left_any _ _ _ _ _ _ h (by omega) (by omega)).mono ?_; rintro e w' ⟨rfl, rfl⟩))
    go_ret
    exact ⟨rfl, rfl⟩

theorem peek_any (g n c p B : Nat) (A : Option Addr) (zs : List Int) (i : Int) (w : World) (h : Cur w g A n c p) (hb : Byt w B A n c zs) (hp : p ≤ n) (hn : n ≤ 1000000) :
    Calls Try.prog 46 #[.pointer (some ⟨g, 0, none⟩), .int .i64 i] w fun e w' => e = .returned (.int .i64 (peekZ zs (p + i))) ∧ ∃ k, w' = w.drewN k := by
  by_cases hi : i < -(p : Int) ∨ (n : Int) - p ≤ i
  · rw [peekZ_out zs (p + i) (by rw [hb.len]; omega)]
    exact (peek_out g n c p A zs i w h hb.len hp hn hi).mono fun e w' ⟨he, hw⟩ => ⟨he, 0, hw.symm⟩
  · have e : (p : Int) + i = (((p : Int) + i).toNat : Nat) := by omega
    rw [e]
    exact peek_in g n c p B A zs i _ w h hb hp hn (by omega) (by omega)

theorem new_any (A : Option Addr) (n c : Nat) (w : World) :
    Calls Try.prog 26 #[.slice A n c] w fun e w' => e = .returned (.pointer (some ⟨w.heap.size, 0, none⟩)) ∧ w' = w.alloc (.cells #[.slice A n c, .int .i64 (0 : Nat)] 68) := by
  go_enter Try.func26, Try.ntmps26
  go_wp2
  go_ret
  exact ⟨rfl, rfl⟩

theorem next_in (g n c p B : Nat) (A : Option Addr) (zs : List Int) (w : World) (h : Cur w g A n c p) (hb : Byt w B A n c zs) (hp : p < n) (hn : n ≤ 1000000) :
    Calls Try.prog 41 #[.pointer (some ⟨g, 0, none⟩)] w fun e w' => e = .returned (.int .i64 (peekZ zs p)) ∧ Cur w' g A n c (p + 1) ∧ Only g w w' := by
  have H := Lib.hid h
  have hl := hb.len
  have e1 := peekZ_in zs p (by omega)
  have hr := hb.getD p
  rw [← e1] at hr
  have hpk := fun W (hW : Cur W g A n c p) (hB : Byt W B A n c zs) => peek_in g n c p B A zs 0 p W hW hB (by omega) hn (by omega) hp
  have HPK := Lib.hid hpk
  have HB := Lib.hid hb
  obtain ⟨z, hz⟩ : ∃ z, peekZ zs p = z := ⟨_, rfl⟩
  rw [hz] at hr
  have HZ := Lib.hid hz
  obtain ⟨r0, r1⟩ := hr
  have r2 : (z : Int) ≥ 0 := r0
  have h1 := h.c1
  have hf := h.fr 1
  clear hpk hb hz hl e1
  go_enter Try.func41, Try.ntmps41
  go_wp2_with (go_at_call 46; refine (HPK.out _ h HB.out).mono ?_; rintro e w' ⟨rfl, k, hk⟩; subst hk; rw [HZ.out])
  go_ret
  exact ⟨ret_int HZ.out.symm, (h.setI (p + 1) _ (by omega)).drewN k, ((Only.refl _ _).drewN k).set_ _ _⟩

theorem next_out (g n c : Nat) (A : Option Addr) (zs : List Int) (w : World) (h : Cur w g A n c n) (hl : zs.length = n) (hn : n ≤ 1000000) :
    Calls Try.prog 41 #[.pointer (some ⟨g, 0, none⟩)] w fun e w' => e = .returned (.int .i64 (-1)) ∧ w = w' := by
  have HPK := Lib.hid (peek_out g n c n A zs 0 w h hl (by omega) hn (by omega))
  clear hl h
  go_enter Try.func41, Try.ntmps41
  go_wp2_with (go_at_call 46; refine HPK.out.mono ?_; rintro e w' ⟨rfl, rfl⟩)
  go_ret
  exact ⟨rfl, rfl⟩






theorem new_cur (A : Option Addr) (n c : Nat) (w : World) :
    Calls Try.prog 26 #[.slice A n c] w fun e w' => e = .returned (.pointer (some ⟨w.heap.size, 0, none⟩)) ∧ Cur w' w.heap.size A n c 0 ∧ Below w.heap.size w w' :=
  (new_any A n c w).mono fun e w' ⟨he, hw⟩ => ⟨he, by rw [hw]; exact Cur.new w, by rw [hw]; exact (Below.refl _ _).alloc (Nat.le_refl _) _⟩




theorem word_out (g n c p : Nat) (m : Int) (A : Option Addr) (w : World) (h : Cur w g A n c p) (hp : p ≤ n) (hm : m < 1 ∨ 7 < m ∨ (n : Int) - p < m) (hn : n ≤ 1000000) :
    Calls Try.prog 28 #[.pointer (some ⟨g, 0, none⟩), .int .i64 m] w fun e w' => e = .returned (.tuple #[.int .i64 0, .bool false]) ∧ w = w' := by
  have HL := Lib.hid (left_any g n c p A w h hp (by omega))
  by_cases h1 : m < 1
  · go_enter Try.func28, Try.ntmps28
    go_wp2_with (go_at_call 27; refine HL.out.mono ?_; rintro e w' ⟨rfl, rfl⟩)
    go_ret2
    exact ⟨rfl, rfl⟩
  · by_cases h2 : 7 < m
    · go_enter Try.func28, Try.ntmps28
      go_wp2_with (go_at_call 27; refine HL.out.mono ?_; rintro e w' ⟨rfl, rfl⟩)
      go_ret2
      exact ⟨rfl, rfl⟩
    · have h3 : (n : Int) - p < m := by omega
      clear hm
      go_enter Try.func28, Try.ntmps28
      go_wp2_with (go_at_call 27; refine HL.out.mono ?_; rintro e w' ⟨rfl, rfl⟩)
      go_ret2
      exact ⟨rfl, rfl⟩

theorem word_in (g n c p m B : Nat) (A : Option Addr) (zs : List Int) (w : World) (h : Cur w g A n c p) (hb : Byt w B A n c zs) (hB : B ≤ g) (h1 : 1 ≤ m) (h7 : m ≤ 7) (hm : p + m ≤ n) (hn : n ≤ 1000000) :
    Calls Try.prog 28 #[.pointer (some ⟨g, 0, none⟩), .int .i64 m] w fun e w' => e = .returned (.tuple #[.int .i64 (numZ ((zs.drop p).take m)), .bool true]) ∧ Cur w' g A n c (p + m) ∧ Only g w w' := by
  have HL := Lib.hid (left_any g n c p A w h (by omega) (by omega))
  have HB := Lib.hid hb
  have H := Lib.hid h
  have b1 : ¬ (m : Int) < 1 := by omega
  have b2 : ¬ 7 < (m : Int) := by omega
  have b3 : ¬ (n : Int) - p < m := by omega
  obtain ⟨ys, hys⟩ : ∃ ys, (zs.drop p).take m = ys := ⟨_, rfl⟩
  have HY := Lib.hid hys
  have hyl : ys.length = m := by rw [← hys]; simp [hb.len]; omega
  have HYL := Lib.hid hyl
  have HYR : Hid (∀ z ∈ ys, 0 ≤ z ∧ z < 256) := Lib.hid (fun z hz => hb.rng z (by rw [← hys] at hz; exact List.mem_of_mem_drop (List.mem_of_mem_take hz)))
  have HYG : Hid (∀ k, k < m → ys.getD k 0 = peekZ zs ((p + k : Nat) : Int)) := Lib.hid (fun k hk => by
    rw [peekZ_in zs (p + k) (by rw [hb.len]; omega), ← hys]
    simp [List.getD, hk])
  rw [hys]
  clear hys hyl h hb
  go_enter Try.func28, Try.ntmps28
  go_wp2_with (go_at_call 27; refine HL.out.mono ?_; rintro e w' ⟨rfl, rfl⟩)
  go_loopw [6, 20] (fun a i wr => ∃ k : Nat, k ≤ m ∧ i = .int .i64 k ∧ a = .int .i64 (numZ (ys.take k)) ∧ Cur wr g A n c (p + k) ∧ Only g w wr) (fun _ i _ => m - (intOf i).toNat)
  case atStart => exact ⟨0, Nat.zero_le _, rfl, rfl, H.out, Only.refl _ _⟩
  case round =>
    obtain ⟨k, hk, rfl, rfl, hcur, hbel⟩ := hrel
    by_cases hlt : k < m
    · have hv := numZ_bd ys HYR.out k (by rw [HYL.out]; omega) (by omega)
      have hsn := numZ_take ys k (by rw [HYL.out]; omega)
      have hg := HYG.out k hlt
      have hz : 0 ≤ ys.getD k 0 ∧ ys.getD k 0 < 256 := by
        have hl := HYL.out
        have e : ys.getD k 0 = ys[k] := by simp [List.getD, hl, hlt]
        rw [e]; exact HYR.out _ (List.getElem_mem _)
      have hnx := next_in g n c (p + k) B A zs wr hcur (HB.out.only hbel hB (Nat.le_of_lt H.out.lt)) (by omega) hn
      rw [← hg] at hnx
      obtain ⟨z, hzz⟩ : ∃ z, ys.getD k 0 = z := ⟨_, rfl⟩
      obtain ⟨v, hvv⟩ : ∃ v, numZ (ys.take k) = v := ⟨_, rfl⟩
      rw [hzz] at hnx hsn hz
      rw [hvv] at hsn hv
      have HSN := Lib.hid hsn
      have HNX := Lib.hid hnx
      have HBL := Lib.hid hbel
      obtain ⟨z0, z1⟩ := hz
      obtain ⟨v0, v1⟩ := hv
      rw [hvv]
      clear hzz hvv hsn hnx hcur hg hbel
      go_wp2_with (go_at_call 41; refine HNX.out.mono ?_; rintro e w2 ⟨rfl, hc2, hb2⟩)
      go_roundw
      case rel => exact ⟨k + 1, by omega, by go_num, by rw [HSN.out, or_byte v z v0 (by omega) z0 z1], by rw [← Nat.add_assoc]; exact hc2, HBL.out.trans hb2⟩
      case measure => simp [intOf]; omega
    · obtain rfl : k = m := by omega
      have HBL := Lib.hid hbel
      have HCU := Lib.hid hcur
      clear hbel hcur
      go_wp2
      go_ret2
      exact ⟨by first | rfl | (rw [List.take_of_length_le (by rw [HYL.out]; omega)]; rfl), HCU.out, HBL.out⟩

end Go.Proofs.Ytnonldlddgankaa
