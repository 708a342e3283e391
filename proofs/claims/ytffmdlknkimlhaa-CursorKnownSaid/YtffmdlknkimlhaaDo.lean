/- What the statements' own 'Do' answers: each deed is right, and leads to the place that it should. -/
import Derived.Test.YtffmdlknkimlhaaCurE
import Derived.WalkLawsBesides
namespace Go.Proofs.Ytffmdlknkimlhaa
open Go.RowKit
set_option linter.unusedVariables false

theorem refPeek_any (A : Option Addr) (n c B : Nat) (zs : List Int) (i : Int) (w : World) (h : Byt w B A n c zs) (hn : n ≤ 1000000) :
    Calls Try.prog 29 #[.slice A n c, .int .i64 i] w fun e w' => e = .returned (.int .i64 (peekZ zs i)) ∧ w = w' := by
  by_cases hi : i < 0 ∨ (n : Int) ≤ i
  · exact refPeek_out A n c zs i w h.len hi hn
  · have e : i = ((i.toNat : Nat) : Int) := by omega
    rw [e]
    exact refPeek_in A n c B zs i.toNat w h (by omega) hn

/-- The deed's own block. -/
structure Box (w : World) (b : Nat) (d m : Int) (s : ByteArray) : Prop where
  c0 : w.cell? ⟨b, 0, none⟩ = some (.int .i64 d)
  c1 : w.cell? ⟨b, 1, none⟩ = some (.int .i64 m)
  c2 : w.cell? ⟨b, 2, none⟩ = some (.string s)
theorem Box.new (w : World) (d m : Int) (s : ByteArray) : Box (w.alloc (.cells #[.int .i64 d, .int .i64 m, .string s] 35)) w.heap.size d m s := by
  refine ⟨?_, ?_, ?_⟩ <;> (rw [World.cell?_alloc_mark]; rfl)
theorem Box.only {w w1 w2 : World} {g : Nat} {d m : Int} {s : ByteArray} (h : Box w1 w.heap.size d m s) (ho : Only g w1 w2) (hz : w.heap.size < w1.heap.size) (hg : g < w.heap.size) : Box w2 w.heap.size d m s :=
  ⟨(ho.cell (p := ⟨w.heap.size, 0, none⟩) hz (Nat.ne_of_gt hg)).trans h.c0, (ho.cell (p := ⟨w.heap.size, 1, none⟩) hz (Nat.ne_of_gt hg)).trans h.c1, (ho.cell (p := ⟨w.heap.size, 2, none⟩) hz (Nat.ne_of_gt hg)).trans h.c2⟩

/-- What the walks below start from: the world behind the box. -/
theorem boxed (g n c p B : Nat) (A : Option Addr) (zs : List Int) (d m : Int) (s : ByteArray) (w : World) (h : Cur w g A n c p) (hb : Byt w B A n c zs) (hB : B ≤ g) :
    ∃ w1, w1 = w.alloc (.cells #[.int .i64 d, .int .i64 m, .string s] 35) ∧ Cur w1 g A n c p ∧ Byt w1 B A n c zs ∧ Box w1 w.heap.size d m s ∧ Only g w w1 ∧ w1.heap.size = w.heap.size + 1 := by
  have hbel : Below w.heap.size w (w.alloc (.cells #[.int .i64 d, .int .i64 m, .string s] 35)) := (Below.refl _ _).alloc (Nat.le_refl _) _
  exact ⟨_, rfl, h.below hbel h.lt, hb.below hbel (by have := h.lt; omega), Box.new w d m s, Only.of_below hbel g, by simp⟩

set_option maxRecDepth 100000 in
set_option maxHeartbeats 1000000 in
theorem doNext_in (g n c p B : Nat) (A : Option Addr) (zs : List Int) (d m : Int) (s : ByteArray) (w : World) (h : Cur w g A n c p) (hb : Byt w B A n c zs) (hB : B ≤ g) (hp : p < n) (hn : n ≤ 1000000) (hd : d ≤ 2) :
    Calls Try.prog 15 #[.pointer (some ⟨g, 0, none⟩), .slice A n c, .int .i64 p, .agg #[.int .i64 d, .int .i64 m, .string s]] w fun e w' => e = .returned (.tuple #[.int .i64 ((p + 1 : Nat) : Int), .bool true]) ∧ Cur w' g A n c (p + 1) ∧ Only g w w' := by
  obtain ⟨w1, hw1, hc1, hb1, hx1, ho1, hz1⟩ := boxed g n c p B A zs d m s w h hb hB
  have hg := h.lt
  have HC := Lib.hid hc1
  have HB := Lib.hid hb1
  have HO := Lib.hid ho1
  have HZ := Lib.hid hz1
  have HX := Lib.hid hx1
  have HW := Lib.hid hw1
  clear hw1 hc1 hb1 ho1 hz1 hx1 h hb
  go_enter Try.func15, Try.ntmps15
  go_wp2_with (first
    | (go_at_call 10; rw [← HW.out]; refine (next_in g n c p B A zs w1 HC.out HB.out hp hn).mono ?_; rintro e w2 ⟨rfl, hc2, ho2⟩)
    | (go_at_call 29; refine (refPeek_any A n c B zs p w2 (HB.out.only ho2 hB (Nat.le_of_lt HC.out.lt)) hn).mono ?_; rintro e w' ⟨rfl, rfl⟩))
  go_ret2
  exact ⟨ret_pair (int_eq (by omega)) (bool_eq (by simp)), hc2, HO.out.trans ho2⟩

theorem peek_any (g n c p B : Nat) (A : Option Addr) (zs : List Int) (i : Int) (w : World) (h : Cur w g A n c p) (hb : Byt w B A n c zs) (hp : p ≤ n) (hn : n ≤ 1000000) :
    Calls Try.prog 11 #[.pointer (some ⟨g, 0, none⟩), .int .i64 i] w fun e w' => e = .returned (.int .i64 (peekZ zs (p + i))) ∧ ∃ k, w' = w.drewN k := by
  by_cases hi : i < -(p : Int) ∨ (n : Int) - p ≤ i
  · rw [peekZ_out zs (p + i) (by rw [hb.len]; omega)]
    exact (peek_out g n c p A zs i w h hb.len hp hn hi).mono fun e w' ⟨he, hw⟩ => ⟨he, 0, hw.symm⟩
  · have e : (p : Int) + i = (((p : Int) + i).toNat : Nat) := by omega
    rw [e]
    exact peek_in g n c p B A zs i _ w h hb hp hn (by omega) (by omega)

set_option maxRecDepth 100000 in
set_option maxHeartbeats 1000000 in
theorem doNext_out (g n c B : Nat) (A : Option Addr) (zs : List Int) (d m : Int) (s : ByteArray) (w : World) (h : Cur w g A n c n) (hb : Byt w B A n c zs) (hB : B ≤ g) (hn : n ≤ 1000000) (hd : d ≤ 2) :
    Calls Try.prog 15 #[.pointer (some ⟨g, 0, none⟩), .slice A n c, .int .i64 n, .agg #[.int .i64 d, .int .i64 m, .string s]] w fun e w' => e = .returned (.tuple #[.int .i64 n, .bool true]) ∧ Cur w' g A n c n ∧ Only g w w' := by
  obtain ⟨w1, hw1, hc1, hb1, hx1, ho1, hz1⟩ := boxed g n c n B A zs d m s w h hb hB
  have HC := Lib.hid hc1
  have HB := Lib.hid hb1
  have HO := Lib.hid ho1
  have HX := Lib.hid hx1
  have HW := Lib.hid hw1
  have HE := Lib.hid (peekZ_out zs n (by rw [hb.len]; omega))
  clear hw1 hc1 hb1 ho1 hz1 hx1 h hb
  go_enter Try.func15, Try.ntmps15
  go_wp2_with (first
    | (go_at_call 10; rw [← HW.out]; refine (next_out g n c A zs w1 HC.out HB.out.len hn).mono ?_; rintro e w2 ⟨rfl, hw2⟩; subst hw2)
    | (go_at_call 29; refine (refPeek_any A n c B zs n w1 HB.out hn).mono ?_; rintro e w' ⟨rfl, rfl⟩; rw [HE.out]))
  go_ret2
  exact ⟨ret_pair (int_eq (by omega)) (bool_eq (by simp)), HC.out, HO.out⟩

set_option maxRecDepth 100000 in
set_option maxHeartbeats 1000000 in
theorem doPeek_far (g n c p B : Nat) (A : Option Addr) (zs : List Int) (m : Int) (s : ByteArray) (w : World) (h : Cur w g A n c p) (hb : Byt w B A n c zs) (hB : B ≤ g) (hp : p ≤ n) (hn : n ≤ 1000000) (hm : m > 1099511627776 ∨ m < -1099511627776) :
    Calls Try.prog 15 #[.pointer (some ⟨g, 0, none⟩), .slice A n c, .int .i64 p, .agg #[.int .i64 3, .int .i64 m, .string s]] w fun e w' => e = .returned (.tuple #[.int .i64 p, .bool true]) ∧ Cur w' g A n c p ∧ Only g w w' := by
  obtain ⟨w1, hw1, hc1, hb1, hx1, ho1, hz1⟩ := boxed g n c p B A zs 3 m s w h hb hB
  have HC := Lib.hid hc1
  have HB := Lib.hid hb1
  have HO := Lib.hid ho1
  have HW := Lib.hid hw1
  clear hw1 hc1 hb1 ho1 hz1 hx1 h hb
  by_cases h1 : m > 1099511627776
  · clear hm
    go_enter Try.func15, Try.ntmps15
    go_wp2_with (first
      | (go_at_call 11; rw [← HW.out]; refine (peek_out g n c p A zs m w1 HC.out HB.out.len hp hn (by omega)).mono ?_; rintro e w2 ⟨rfl, hw2⟩; subst hw2))
    go_ret2
    exact ⟨rfl, HC.out, HO.out⟩
  · have h2 : m < -1099511627776 := by omega
    clear hm
    go_enter Try.func15, Try.ntmps15
    go_wp2_with (first
      | (go_at_call 11; rw [← HW.out]; refine (peek_out g n c p A zs m w1 HC.out HB.out.len hp hn (by omega)).mono ?_; rintro e w2 ⟨rfl, hw2⟩; subst hw2))
    go_ret2
    exact ⟨rfl, HC.out, HO.out⟩

set_option maxRecDepth 100000 in
set_option maxHeartbeats 1000000 in
theorem doPeek_near (g n c p B : Nat) (A : Option Addr) (zs : List Int) (m : Int) (s : ByteArray) (w : World) (h : Cur w g A n c p) (hb : Byt w B A n c zs) (hB : B ≤ g) (hp : p ≤ n) (hn : n ≤ 1000000) (h1 : m ≤ 1099511627776) (h2 : -1099511627776 ≤ m) :
    Calls Try.prog 15 #[.pointer (some ⟨g, 0, none⟩), .slice A n c, .int .i64 p, .agg #[.int .i64 3, .int .i64 m, .string s]] w fun e w' => e = .returned (.tuple #[.int .i64 p, .bool true]) ∧ Cur w' g A n c p ∧ Only g w w' := by
  obtain ⟨w1, hw1, hc1, hb1, hx1, ho1, hz1⟩ := boxed g n c p B A zs 3 m s w h hb hB
  have HC := Lib.hid hc1
  have HB := Lib.hid hb1
  have HO := Lib.hid ho1
  have HW := Lib.hid hw1
  have x0 := hx1.c0
  have x1 := hx1.c1
  obtain ⟨z, hz⟩ : ∃ z, peekZ zs ((p : Int) + m) = z := ⟨_, rfl⟩
  have HP : Hid (∀ k, Calls Try.prog 11 #[.pointer (some ⟨g, 0, none⟩), .int .i64 m] (w1.drewN k) fun e w' => e = .returned (.int .i64 z) ∧ ∃ q, w' = (w1.drewN k).drewN q) := Lib.hid (fun k => by
    rw [← hz]; exact peek_any g n c p B A zs m (w1.drewN k) (hc1.drewN k) (hb1.drewN k) hp hn)
  have HR : Hid (∀ k, Calls Try.prog 29 #[.slice A n c, .int .i64 ((p : Int) + m)] (w1.drewN k) fun e w' => e = .returned (.int .i64 z) ∧ w1.drewN k = w') := Lib.hid (fun k => by
    rw [← hz]; exact refPeek_any A n c B zs _ (w1.drewN k) (hb1.drewN k) hn)
  have hew : IntKind.i64.wrap ((p : Int) + m) = (p : Int) + m := IntWalk.i64_in _ (by omega)
  have EW := Lib.hid hew
  clear hw1 hc1 hb1 ho1 hz1 hx1 h hb hz hew
  go_enter Try.func15, Try.ntmps15
  go_wp2_with fail
  have hew := EW.out
  rw [← HW.out]
  go_quiet ((first | (go_at_call 11; exact Calls.quiet_of (HP.out _)) | (go_at_call 29; exact quietL (HR.out _))))
  go_wp2
  go_ret2
  exact ⟨rfl, HC.out.drewN _, HO.out.drewN _⟩

set_option maxRecDepth 100000 in
set_option maxHeartbeats 1000000 in
theorem doSeek_in (g n c p q B : Nat) (A : Option Addr) (zs : List Int) (s : ByteArray) (w : World) (h : Cur w g A n c p) (hb : Byt w B A n c zs) (hB : B ≤ g) (hn : n ≤ 1000000) (hq : q ≤ n) :
    Calls Try.prog 15 #[.pointer (some ⟨g, 0, none⟩), .slice A n c, .int .i64 p, .agg #[.int .i64 4, .int .i64 q, .string s]] w fun e w' => e = .returned (.tuple #[.int .i64 q, .bool true]) ∧ Cur w' g A n c q ∧ Only g w w' := by
  obtain ⟨w1, hw1, hc1, hb1, hx1, ho1, hz1⟩ := boxed g n c p B A zs 4 q s w h hb hB
  have hg := h.lt
  have HC := Lib.hid hc1
  have HO := Lib.hid ho1
  have HW := Lib.hid hw1
  have HX := Lib.hid hx1
  have hz : w.heap.size < w1.heap.size := by omega
  clear hw1 hc1 hb1 ho1 hz1 hx1 h hb
  go_enter Try.func15, Try.ntmps15
  go_wp2_with (first
    | (go_at_call 26; rw [← HW.out]; refine (seek_in g n c p q A w1 HC.out hq hn).mono ?_; rintro e w2 ⟨rfl, hc2, ho2⟩; have x1 := (HX.out.only ho2 hz hg).c1))
  go_ret2
  exact ⟨rfl, hc2, HO.out.trans ho2⟩

set_option maxRecDepth 100000 in
set_option maxHeartbeats 1000000 in
theorem doSeek_out (g n c p B : Nat) (q : Int) (A : Option Addr) (zs : List Int) (s : ByteArray) (w : World) (h : Cur w g A n c p) (hb : Byt w B A n c zs) (hB : B ≤ g) (hn : n ≤ 1000000) (hq : q < 0 ∨ (n : Int) < q) :
    Calls Try.prog 15 #[.pointer (some ⟨g, 0, none⟩), .slice A n c, .int .i64 p, .agg #[.int .i64 4, .int .i64 q, .string s]] w fun e w' => e = .returned (.tuple #[.int .i64 p, .bool true]) ∧ Cur w' g A n c p ∧ Only g w w' := by
  obtain ⟨w1, hw1, hc1, hb1, hx1, ho1, hz1⟩ := boxed g n c p B A zs 4 q s w h hb hB
  have HC := Lib.hid hc1
  have HO := Lib.hid ho1
  have HW := Lib.hid hw1
  have x1 := hx1.c1
  have HS := Lib.hid (seek_out g n c p q A w1 hc1 hq hn)
  clear hw1 hc1 hb1 ho1 hz1 hx1 h hb
  by_cases h1 : q < 0
  · clear hq
    go_enter Try.func15, Try.ntmps15
    go_wp2_with (first
      | (go_at_call 26; rw [← HW.out]; refine HS.out.mono ?_; rintro e w2 ⟨rfl, hw2⟩; subst hw2))
    go_ret2
    exact ⟨rfl, HC.out, HO.out⟩
  · have h2 : (n : Int) < q := by omega
    clear hq
    go_enter Try.func15, Try.ntmps15
    go_wp2_with (first
      | (go_at_call 26; rw [← HW.out]; refine HS.out.mono ?_; rintro e w2 ⟨rfl, hw2⟩; subst hw2))
    go_ret2
    exact ⟨rfl, HC.out, HO.out⟩

set_option maxRecDepth 100000 in
set_option maxHeartbeats 1000000 in
theorem doTake_out (g n c p B : Nat) (q : Int) (A : Option Addr) (zs : List Int) (s : ByteArray) (w : World) (h : Cur w g A n c p) (hb : Byt w B A n c zs) (hB : B ≤ g) (hp : p ≤ n) (hn : n ≤ 1000000) (hq : q < 0 ∨ (n : Int) - p < q) :
    Calls Try.prog 15 #[.pointer (some ⟨g, 0, none⟩), .slice A n c, .int .i64 p, .agg #[.int .i64 5, .int .i64 q, .string s]] w fun e w' => e = .returned (.tuple #[.int .i64 p, .bool true]) ∧ Cur w' g A n c p ∧ Only g w w' := by
  obtain ⟨w1, hw1, hc1, hb1, hx1, ho1, hz1⟩ := boxed g n c p B A zs 5 q s w h hb hB
  have HC := Lib.hid hc1
  have HO := Lib.hid ho1
  have HW := Lib.hid hw1
  have x1 := hx1.c1
  have HS := Lib.hid (take_out g n c p q A w1 hc1 hp hq hn)
  clear hw1 hc1 hb1 ho1 hz1 hx1 h hb
  by_cases h1 : q < 0
  · clear hq
    go_enter Try.func15, Try.ntmps15
    go_wp2_with (first
      | (go_at_call 23; rw [← HW.out]; refine HS.out.mono ?_; rintro e w2 ⟨rfl, hw2⟩; subst hw2))
    go_ret2
    exact ⟨rfl, HC.out, HO.out⟩
  · have h2 : (n : Int) - p < q := by omega
    clear hq
    go_enter Try.func15, Try.ntmps15
    go_wp2_with (first
      | (go_at_call 23; rw [← HW.out]; refine HS.out.mono ?_; rintro e w2 ⟨rfl, hw2⟩; subst hw2))
    go_ret2
    exact ⟨rfl, HC.out, HO.out⟩

set_option maxRecDepth 100000 in
set_option maxHeartbeats 1000000 in
theorem doTake_in (g n c p q B : Nat) (A : Option Addr) (zs : List Int) (s : ByteArray) (w : World) (h : Cur w g A n c p) (hb : Byt w B A n c zs) (hB : B ≤ g) (hn : n ≤ 1000000) (hq : p + q ≤ n) :
    Calls Try.prog 15 #[.pointer (some ⟨g, 0, none⟩), .slice A n c, .int .i64 p, .agg #[.int .i64 5, .int .i64 q, .string s]] w fun e w' => e = .returned (.tuple #[.int .i64 ((p + q : Nat) : Int), .bool true]) ∧ Cur w' g A n c (p + q) ∧ Only g w w' := by
  obtain ⟨w1, hw1, hc1, hb1, hx1, ho1, hz1⟩ := boxed g n c p B A zs 5 q s w h hb hB
  have hg := h.lt
  have HC := Lib.hid hc1
  have HO := Lib.hid ho1
  have HW := Lib.hid hw1
  have HX := Lib.hid hx1
  have hz : w.heap.size < w1.heap.size := by omega
  have HB := Lib.hid hb1
  have h1 : ¬ (q : Int) < 0 := by omega
  have h2 : ¬ (n : Int) - p < q := by omega
  have hew : IntKind.i64.wrap ((p : Int) + q) = (p : Int) + q := IntWalk.i64_in _ (by omega)
  have EW := Lib.hid hew
  have hsl := fun W => run_cut2 (P := Try.prog) W 25 5 Try.underlying25 (fun w => by kernel_rfl) A n c p q (by have := hb.cap; omega)
  have HSL := Lib.hid hsl
  clear hw1 hc1 hb1 ho1 hz1 hx1 h hb hew hsl
  go_enter Try.func15, Try.ntmps15
  go_wp2_with (first
    | (go_at_call 23; rw [← HW.out]; refine (take_in g n c p q B A zs w1 HC.out HB.out hq hn hB).mono ?_; rintro e w2 ⟨A2, c2, rfl, hby, _, hc2, ho2⟩; have x1 := (HX.out.only ho2 hz hg).c1))
  have hew := EW.out
  have hsl := HSL.out
  have hby2 := (HB.out.only ho2 hB (Nat.le_of_lt HC.out.lt)).cut hq
  have HY1 := Lib.hid hby
  have HY2 := Lib.hid hby2
  clear hby hby2
  go_quiet ((go_at_call 22; exact Calls.quiet_of (refSame_yes A2 _ q c2 _ _ _ _ _ (HY1.out.drewN _) (HY2.out.drewN _) (by omega))))
  go_wp2
  go_ret2
  exact ⟨ret_pair (int_eq (by omega)) rfl, hc2.drewN _, (HO.out.trans ho2).drewN _⟩
end Go.Proofs.Ytffmdlknkimlhaa
