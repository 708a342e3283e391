/- What the statements' own 'Do' answers, the deeds Match and Word; and all deeds in one. -/
import Derived.Test.YtffmdlknkimlhaaDo
namespace Go.Proofs.Ytffmdlknkimlhaa
open Go.RowKit
set_option linter.unusedVariables false

set_option maxRecDepth 100000 in
set_option maxHeartbeats 1000000 in
theorem doMatch_yes (g n c p B : Nat) (m : Int) (A : Option Addr) (zs : List Int) (s : ByteArray) (w : World) (h : Cur w g A n c p) (hb : Byt w B A n c zs) (hB : B ≤ g) (hn : n ≤ 1000000) (hq : p + s.size ≤ n) (hst : stB zs p s = true) :
    Calls Try.prog 15 #[.pointer (some ⟨g, 0, none⟩), .slice A n c, .int .i64 p, .agg #[.int .i64 6, .int .i64 m, .string s]] w fun e w' => e = .returned (.tuple #[.int .i64 ((p + s.size : Nat) : Int), .bool true]) ∧ Cur w' g A n c (p + s.size) ∧ Only g w w' := by
  obtain ⟨w1, hw1, hc1, hb1, hx1, ho1, hz1⟩ := boxed g n c p B A zs 6 m s w h hb hB
  have hg := h.lt
  have HC := Lib.hid hc1
  have HO := Lib.hid ho1
  have HW := Lib.hid hw1
  have HX := Lib.hid hx1
  have hz : w.heap.size < w1.heap.size := by omega
  have HB := Lib.hid hb1
  have HST := Lib.hid hst
  clear hw1 hc1 hb1 ho1 hz1 hx1 h hb hst
  go_enter Try.func15, Try.ntmps15
  go_wp2_with (first
    | (go_at_call 12; rw [← HW.out]; refine (match_yes g n c p B A zs s w1 HC.out HB.out hn hq HST.out).mono ?_; rintro e w2 ⟨rfl, hc2, ho2⟩; have x2 := (HX.out.only ho2 hz hg).c2)
    | (go_at_call 30; refine (refStands_at A n c B zs p s w2 (HB.out.only ho2 hB (Nat.le_of_lt HC.out.lt)) hn hq).mono ?_; rintro e w' ⟨rfl, rfl⟩; rw [HST.out]))
  go_ret2
  exact ⟨ret_pair (int_eq (by omega)) rfl, hc2, HO.out.trans ho2⟩

set_option maxRecDepth 100000 in
set_option maxHeartbeats 1000000 in
theorem doMatch_not (g n c p B : Nat) (m : Int) (A : Option Addr) (zs : List Int) (s : ByteArray) (w : World) (h : Cur w g A n c p) (hb : Byt w B A n c zs) (hB : B ≤ g) (hp : p ≤ n) (hn : n ≤ 1000000) (hs : s.size ≤ 9223372036854775807) (hst : stB zs p s = false) :
    Calls Try.prog 15 #[.pointer (some ⟨g, 0, none⟩), .slice A n c, .int .i64 p, .agg #[.int .i64 6, .int .i64 m, .string s]] w fun e w' => e = .returned (.tuple #[.int .i64 p, .bool true]) ∧ Cur w' g A n c p ∧ Only g w w' := by
  obtain ⟨w1, hw1, hc1, hb1, hx1, ho1, hz1⟩ := boxed g n c p B A zs 6 m s w h hb hB
  have hg := h.lt
  have HC := Lib.hid hc1
  have HO := Lib.hid ho1
  have HW := Lib.hid hw1
  have hz : w.heap.size < w1.heap.size := by omega
  have HB := Lib.hid hb1
  have x2 := hx1.c2
  have HM : Hid (Calls Try.prog 12 #[.pointer (some ⟨g, 0, none⟩), .string s] w1 fun e w' => e = .returned (.bool false) ∧ ∃ k, w' = w1.drewN k) := Lib.hid (by
    by_cases hq : p + s.size ≤ n
    · exact match_diff g n c p B A zs s w1 hc1 hb1 hn hq hst
    · exact match_no g n c p A zs s w1 hc1 hb1.len hp hn hs (by omega))
  have HR : Hid (∀ k, Calls Try.prog 30 #[.slice A n c, .int .i64 p, .string s] (w1.drewN k) fun e w' => e = .returned (.bool false) ∧ w1.drewN k = w') := Lib.hid (fun k => by
    by_cases hq : p + s.size ≤ n
    · have h := refStands_at A n c B zs p s (w1.drewN k) (hb1.drewN k) hn hq
      rw [hst] at h
      exact h
    · exact refStands_no2 A n c zs p s (w1.drewN k) hb1.len hn hs (by omega))
  clear hw1 hc1 hb1 ho1 hz1 hx1 h hb hst
  go_enter Try.func15, Try.ntmps15
  go_wp2_with (first
    | (go_at_call 12; rw [← HW.out]; refine HM.out.mono ?_; rintro e w2 ⟨rfl, k2, hk2⟩; subst hk2)
    | (go_at_call 30; refine (HR.out _).mono ?_; rintro e w' ⟨rfl, rfl⟩))
  go_ret2
  exact ⟨rfl, HC.out.drewN _, HO.out.drewN _⟩

set_option maxRecDepth 100000 in
set_option maxHeartbeats 1000000 in
theorem doWord_out (g n c p B : Nat) (d q : Int) (A : Option Addr) (zs : List Int) (s : ByteArray) (w : World) (h : Cur w g A n c p) (hb : Byt w B A n c zs) (hB : B ≤ g) (hp : p ≤ n) (hn : n ≤ 1000000) (hd : 6 < d) (hq : q < 1 ∨ 7 < q ∨ (n : Int) - p < q) :
    Calls Try.prog 15 #[.pointer (some ⟨g, 0, none⟩), .slice A n c, .int .i64 p, .agg #[.int .i64 d, .int .i64 q, .string s]] w fun e w' => e = .returned (.tuple #[.int .i64 p, .bool true]) ∧ Cur w' g A n c p ∧ Only g w w' := by
  obtain ⟨w1, hw1, hc1, hb1, hx1, ho1, hz1⟩ := boxed g n c p B A zs d q s w h hb hB
  have HC := Lib.hid hc1
  have HO := Lib.hid ho1
  have HW := Lib.hid hw1
  have x1 := hx1.c1
  have HS := Lib.hid (word_out g n c p q A w1 hc1 hp hq hn)
  have d2 : ¬ d ≤ 2 := by omega
  have d3 : (d == 3) = false := by simp; omega
  have d4 : (d == 4) = false := by simp; omega
  have d5 : (d == 5) = false := by simp; omega
  have d6 : (d == 6) = false := by simp; omega
  clear hw1 hc1 hb1 ho1 hz1 hx1 h hb
  by_cases h1 : q < 1
  · clear hq
    go_enter Try.func15, Try.ntmps15
    go_wp2_with (first
      | (go_at_call 24; rw [← HW.out]; refine HS.out.mono ?_; rintro e w2 ⟨rfl, hw2⟩; subst hw2))
    go_ret2
    exact ⟨rfl, HC.out, HO.out⟩
  · by_cases h2 : 7 < q
    · clear hq
      go_enter Try.func15, Try.ntmps15
      go_wp2_with (first
        | (go_at_call 24; rw [← HW.out]; refine HS.out.mono ?_; rintro e w2 ⟨rfl, hw2⟩; subst hw2))
      go_ret2
      exact ⟨rfl, HC.out, HO.out⟩
    · have h3 : (n : Int) - p < q := by omega
      clear hq
      go_enter Try.func15, Try.ntmps15
      go_wp2_with (first
        | (go_at_call 24; rw [← HW.out]; refine HS.out.mono ?_; rintro e w2 ⟨rfl, hw2⟩; subst hw2))
      go_ret2
      exact ⟨rfl, HC.out, HO.out⟩

set_option maxRecDepth 100000 in
set_option maxHeartbeats 1000000 in
theorem doWord_in (g n c p q B : Nat) (d : Int) (A : Option Addr) (zs : List Int) (s : ByteArray) (w : World) (h : Cur w g A n c p) (hb : Byt w B A n c zs) (hB : B ≤ g) (hn : n ≤ 1000000) (hd : 6 < d) (h1 : 1 ≤ q) (h7 : q ≤ 7) (hq : p + q ≤ n) :
    Calls Try.prog 15 #[.pointer (some ⟨g, 0, none⟩), .slice A n c, .int .i64 p, .agg #[.int .i64 d, .int .i64 q, .string s]] w fun e w' => e = .returned (.tuple #[.int .i64 ((p + q : Nat) : Int), .bool true]) ∧ Cur w' g A n c (p + q) ∧ Only g w w' := by
  obtain ⟨w1, hw1, hc1, hb1, hx1, ho1, hz1⟩ := boxed g n c p B A zs d q s w h hb hB
  have hg := h.lt
  have HC := Lib.hid hc1
  have HO := Lib.hid ho1
  have HW := Lib.hid hw1
  have HX := Lib.hid hx1
  have hz : w.heap.size < w1.heap.size := by omega
  have HB := Lib.hid hb1
  have d2 : ¬ d ≤ 2 := by omega
  have d3 : (d == 3) = false := by simp; omega
  have d4 : (d == 4) = false := by simp; omega
  have d5 : (d == 5) = false := by simp; omega
  have d6 : (d == 6) = false := by simp; omega
  have b1 : ¬ (q : Int) < 1 := by omega
  have b2 : ¬ 7 < (q : Int) := by omega
  have b3 : ¬ (n : Int) - p < q := by omega
  obtain ⟨v, hv⟩ : ∃ v, numZ ((zs.drop p).take q) = v := ⟨_, rfl⟩
  have hwd := word_in g n c p q B A zs w1 hc1 hb1 hB h1 h7 hq hn
  rw [hv] at hwd
  have HWD := Lib.hid hwd
  have HN : Hid (∀ W, Byt W B (cutA A c p) q (c - p) ((zs.drop p).take q) → Calls Try.prog 25 #[.slice (cutA A c p) q (c - p)] W fun e w' => e = .returned (.int .i64 v) ∧ W = w') := Lib.hid (fun W hW => by
    rw [← hv]; exact refNumber _ _ _ B _ W hW h7)
  have hew : IntKind.i64.wrap ((p : Int) + q) = (p : Int) + q := IntWalk.i64_in _ (by omega)
  have EW := Lib.hid hew
  have hsl := fun W => run_cut2 (P := Try.prog) W 25 5 Try.underlying25 (fun w => by kernel_rfl) A n c p q (by have := hb.cap; omega)
  have HSL := Lib.hid hsl
  clear hw1 hc1 hb1 ho1 hz1 hx1 h hb hew hsl hv hwd
  go_enter Try.func15, Try.ntmps15
  go_wp2_with (first
    | (go_at_call 24; rw [← HW.out]; refine HWD.out.mono ?_; rintro e w2 ⟨rfl, hc2, ho2⟩; have x1 := (HX.out.only ho2 hz hg).c1))
  have hew := EW.out
  have hsl := HSL.out
  have hby2 := (HB.out.only ho2 hB (Nat.le_of_lt HC.out.lt)).cut hq
  have HY2 := Lib.hid hby2
  clear hby2
  go_quiet ((go_at_call 25; exact quietL (HN.out _ (HY2.out.drewN _))))
  go_wp2
  go_ret2
  exact ⟨ret_pair (int_eq (by omega)) (bool_eq (by simp)), hc2.drewN _, (HO.out.trans ho2).drewN _⟩

/-- Whatever the deed. -/
theorem do_any (g n c p B : Nat) (d m : Int) (A : Option Addr) (zs : List Int) (s : ByteArray) (w : World) (h : Cur w g A n c p) (hb : Byt w B A n c zs) (hB : B ≤ g) (hp : p ≤ n) (hn : n ≤ 1000000) (hs : s.size ≤ 9223372036854775807) :
    Calls Try.prog 15 #[.pointer (some ⟨g, 0, none⟩), .slice A n c, .int .i64 p, .agg #[.int .i64 d, .int .i64 m, .string s]] w fun e w' => ∃ p' : Nat, p' ≤ n ∧ e = .returned (.tuple #[.int .i64 p', .bool true]) ∧ Cur w' g A n c p' ∧ Only g w w' := by
  by_cases hd2 : d ≤ 2
  · rcases Nat.lt_or_ge p n with hlt | hge
    · exact (doNext_in g n c p B A zs d m s w h hb hB hlt hn hd2).mono fun e w' hh => ⟨p + 1, by omega, hh⟩
    · obtain rfl : p = n := by omega
      exact (doNext_out g p c B A zs d m s w h hb hB hn hd2).mono fun e w' hh => ⟨p, by omega, hh⟩
  by_cases hd3 : d = 3
  · subst hd3
    by_cases hm : m > 1099511627776 ∨ m < -1099511627776
    · exact (doPeek_far g n c p B A zs m s w h hb hB hp hn hm).mono fun e w' hh => ⟨p, hp, hh⟩
    · exact (doPeek_near g n c p B A zs m s w h hb hB hp hn (by omega) (by omega)).mono fun e w' hh => ⟨p, hp, hh⟩
  by_cases hd4 : d = 4
  · subst hd4
    by_cases hm : m < 0 ∨ (n : Int) < m
    · exact (doSeek_out g n c p B m A zs s w h hb hB hn hm).mono fun e w' hh => ⟨p, hp, hh⟩
    · obtain ⟨q, rfl⟩ : ∃ q : Nat, m = q := ⟨m.toNat, by omega⟩
      exact (doSeek_in g n c p q B A zs s w h hb hB hn (by omega)).mono fun e w' hh => ⟨q, by omega, hh⟩
  by_cases hd5 : d = 5
  · subst hd5
    by_cases hm : m < 0 ∨ (n : Int) - p < m
    · exact (doTake_out g n c p B m A zs s w h hb hB hp hn hm).mono fun e w' hh => ⟨p, hp, hh⟩
    · obtain ⟨q, rfl⟩ : ∃ q : Nat, m = q := ⟨m.toNat, by omega⟩
      exact (doTake_in g n c p q B A zs s w h hb hB hn (by omega)).mono fun e w' hh => ⟨p + q, by omega, hh⟩
  by_cases hd6 : d = 6
  · subst hd6
    rcases hst : stB zs p s with _ | _
    · exact (doMatch_not g n c p B m A zs s w h hb hB hp hn hs hst).mono fun e w' hh => ⟨p, hp, hh⟩
    · have hq : p + s.size ≤ n := by
        rcases Nat.lt_or_ge n (p + s.size) with hlt | hge
        · rw [stB_no zs p s (by rw [hb.len]; exact hlt)] at hst; cases hst
        · exact hge
      exact (doMatch_yes g n c p B m A zs s w h hb hB hn hq hst).mono fun e w' hh => ⟨p + s.size, hq, hh⟩
  by_cases hm : m < 1 ∨ 7 < m ∨ (n : Int) - p < m
  · exact (doWord_out g n c p B d m A zs s w h hb hB hp hn (by omega) hm).mono fun e w' hh => ⟨p, hp, hh⟩
  · obtain ⟨q, rfl⟩ : ∃ q : Nat, m = q := ⟨m.toNat, by omega⟩
    exact (doWord_in g n c p q B d A zs s w h hb hB hn (by omega) (by omega) (by omega) (by omega)).mono fun e w' hh => ⟨p + q, by omega, hh⟩
end Go.Proofs.Ytffmdlknkimlhaa
