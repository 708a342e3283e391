/- Chapter 11's laws: the project's lexer and the document's beside each other; tokens compared. -/
import Derived.Test.YtojbhckgegoldaaLaw11Do
import Derived.Test.YtojbhckgegoldaaRq11
namespace Go.Proofs.Ytojbhckgegoldaa
open Go.RowKit
set_option linter.unusedVariables false
set_option maxRecDepth 100000

theorem name_ge (zs : List Int) : ∀ (f p : Nat) (o : List Int), p ≤ (nameF zs f p o).2.2
  | 0, p, o => Nat.le_refl _
  | f + 1, p, o => by
    rw [nameF]
    split
    · exact Nat.le_refl _
    · split
      · split
        · exact Nat.le_refl _
        · split
          · exact Nat.le_refl _
          · have := name_ge zs f (p + 3) (o ++ [dgZ (peekZ zs ((p + 1 : Nat) : Int)) * 16 + dgZ (peekZ zs ((p + 2 : Nat) : Int))])
            omega
      · split
        · exact Nat.le_refl _
        · have := name_ge zs f (p + 1) (o ++ [peekZ zs (p : Int)])
          omega
theorem esc_ge (zs : List Int) (p : Nat) : p < (escZ zs p).2 := by
  unfold escZ
  repeat' split
  all_goals (dsimp only; first | omega | (split <;> omega))
theorem pc_ge (zs : List Int) (p : Nat) : p < (pcZ zs p).2.1 := by
  unfold pcZ
  split
  · split
    · dsimp only; omega
    · have := esc_ge zs (p + 1)
      dsimp only; omega
  · split
    · dsimp only; split <;> omega
    · dsimp only; omega
theorem text_ge (zs : List Int) : ∀ (f p : Nat) (k : Int) (o : List Int), p ≤ (textF zs f p k o).2.2
  | 0, p, k, o => Nat.le_refl _
  | f + 1, p, k, o => by
    have hp := pc_ge zs p
    rw [textF]
    split
    · exact Nat.le_refl _
    · split
      · dsimp only; omega
      · split
        · have := text_ge zs f (pcZ zs p).2.1 (k + (pcZ zs p).2.2) o
          omega
        · split
          · dsimp only; omega
          · have := text_ge zs f (pcZ zs p).2.1 (k + (pcZ zs p).2.2) (o ++ [(pcZ zs p).1])
            omega
theorem tokZ_ge (zs : List Int) (p : Nat) (h0 : (tokZ zs p).e = 0) (hk : (tokZ zs p).k ≠ 0) : p < (tokZ zs p).q := by
  unfold tokZ at h0 hk ⊢
  by_cases c1 : peekZ zs (p : Int) < 0
  · rw [if_pos c1] at hk; exact absurd rfl hk
  rw [if_neg c1] at h0 hk ⊢
  by_cases c2 : nmB (peekZ zs (p : Int)) = true
  · rw [if_pos c2]
    have := (row_in regB (by decide) zs p (nm_reg _ c2)).2
    dsimp only; omega
  rw [if_neg c2] at h0 hk ⊢
  by_cases c3 : regB (peekZ zs (p : Int)) = true
  · rw [if_pos c3] at h0 hk ⊢
    have := (row_in regB (by decide) zs p c3).2
    by_cases d : 127 < rowZ regB (zs.drop p)
    · rw [if_pos d] at h0; exact absurd (show (3 : Int) = 0 from h0) (by decide)
    · rw [if_neg d]; dsimp only; omega
  rw [if_neg c3] at h0 hk ⊢
  by_cases c4 : peekZ zs (p : Int) = 91
  · rw [if_pos c4]; dsimp only; omega
  rw [if_neg c4] at h0 hk ⊢
  by_cases c5 : peekZ zs (p : Int) = 93
  · rw [if_pos c5]; dsimp only; omega
  rw [if_neg c5] at h0 hk ⊢
  by_cases c6 : peekZ zs (p : Int) = 60 ∧ peekZ zs ((p + 1 : Nat) : Int) = 60
  · rw [if_pos c6]; dsimp only; omega
  rw [if_neg c6] at h0 hk ⊢
  by_cases c7 : peekZ zs (p : Int) = 62 ∧ peekZ zs ((p + 1 : Nat) : Int) = 62
  · rw [if_pos c7]; dsimp only; omega
  rw [if_neg c7] at h0 hk ⊢
  by_cases c8 : peekZ zs (p : Int) = 47
  · rw [if_pos c8]
    have := name_ge zs (zs.length + 1) (p + 1) []
    dsimp only; omega
  rw [if_neg c8] at h0 hk ⊢
  by_cases c9 : peekZ zs (p : Int) = 40
  · rw [if_pos c9]
    have := text_ge zs (zs.length + 1) (p + 1) 1 []
    dsimp only; omega
  rw [if_neg c9] at h0 hk ⊢
  by_cases c10 : peekZ zs (p : Int) = 60
  · rw [if_pos c10]
    unfold hexZ
    dsimp only; omega
  rw [if_neg c10] at h0
  exact absurd (show (4 : Int) = 0 from h0) (by decide)
theorem tokT_ge (zs : List Int) (p : Nat) (hp : p ≤ zs.length) (h0 : (tokT zs p).e = 0) (hk : (tokT zs p).k ≠ 0) : p < (tokT zs p).q := by
  have hb := (blkP_le zs p hp).1
  unfold tokT at h0 hk ⊢
  by_cases h : (tokZ zs (blkP zs p)).e = 0
  · rw [if_pos h] at hk ⊢
    have := tokZ_ge zs (blkP zs p) h hk
    omega
  · rw [if_neg h] at h0
    exact absurd h0 h

theorem name_len (zs : List Int) : ∀ (f p : Nat) (o : List Int), o.length ≤ 127 → (nameF zs f p o).2.1.length ≤ 127
  | 0, p, o, h => Nat.zero_le _
  | f + 1, p, o, h => by
    rw [nameF]
    split
    · exact h
    · split
      · split
        · exact Nat.zero_le _
        · split
          · exact Nat.zero_le _
          · exact name_len zs f _ _ (by rw [List.length_append]; show o.length + 1 ≤ 127; omega)
      · split
        · exact Nat.zero_le _
        · exact name_len zs f _ _ (by rw [List.length_append]; show o.length + 1 ≤ 127; omega)
theorem text_len (zs : List Int) : ∀ (f p : Nat) (k : Int) (o : List Int), o.length ≤ 32767 → (textF zs f p k o).2.1.length ≤ 32767
  | 0, p, k, o, h => Nat.zero_le _
  | f + 1, p, k, o, h => by
    rw [textF]
    split
    · exact Nat.zero_le _
    · split
      · exact h
      · split
        · exact text_len zs f _ _ o h
        · split
          · exact Nat.zero_le _
          · exact text_len zs f _ _ _ (by rw [List.length_append]; show o.length + 1 ≤ 32767; omega)
theorem hexd_len : ∀ (xs : List Int) (k : Int) (o : List Int), o.length ≤ 32767 → (unhxR 32767 xs k o).1.length ≤ 32767
  | [], k, o, h => Nat.zero_le _
  | c :: cs, k, o, h => by
    rw [unhxR]
    split
    · exact hexd_len cs k o h
    · split
      · split
        · exact h
        · split
          · exact Nat.zero_le _
          · rw [List.length_append]; show o.length + 1 ≤ 32767; omega
      · split
        · exact Nat.zero_le _
        · split
          · exact hexd_len cs _ o h
          · split
            · exact Nat.zero_le _
            · exact hexd_len cs _ _ (by rw [List.length_append]; show o.length + 1 ≤ 32767; omega)
theorem tokZ_len (zs : List Int) (p : Nat) : (tokZ zs p).b.length ≤ 1000000 := by
  have h1 := name_len zs (zs.length + 1) (p + 1) [] (Nat.zero_le _)
  have h2 := text_len zs (zs.length + 1) (p + 1) 1 [] (Nat.zero_le _)
  have h3 := hexd_len (zs.drop (p + 1)) (-1) [] (Nat.zero_le _)
  unfold tokZ
  by_cases c0 : peekZ zs (p : Int) < 0
  · rw [if_pos c0]; exact Nat.zero_le _
  rw [if_neg c0]
  by_cases c1 : nmB (peekZ zs (p : Int)) = true
  · rw [if_pos c1]; exact Nat.zero_le _
  rw [if_neg c1]
  by_cases c2 : regB (peekZ zs (p : Int)) = true
  · rw [if_pos c2]
    by_cases d : 127 < rowZ regB (zs.drop p)
    · rw [if_pos d]; exact Nat.zero_le _
    · rw [if_neg d]
      show ((zs.drop p).take (rowZ regB (zs.drop p))).length ≤ 1000000
      rw [List.length_take]
      omega
  rw [if_neg c2]
  by_cases c3 : peekZ zs (p : Int) = 91
  · rw [if_pos c3]; exact Nat.zero_le _
  rw [if_neg c3]
  by_cases c4 : peekZ zs (p : Int) = 93
  · rw [if_pos c4]; exact Nat.zero_le _
  rw [if_neg c4]
  by_cases c5 : peekZ zs (p : Int) = 60 ∧ peekZ zs ((p + 1 : Nat) : Int) = 60
  · rw [if_pos c5]; exact Nat.zero_le _
  rw [if_neg c5]
  by_cases c6 : peekZ zs (p : Int) = 62 ∧ peekZ zs ((p + 1 : Nat) : Int) = 62
  · rw [if_pos c6]; exact Nat.zero_le _
  rw [if_neg c6]
  by_cases c7 : peekZ zs (p : Int) = 47
  · rw [if_pos c7]; exact Nat.le_trans h1 (by decide)
  rw [if_neg c7]
  by_cases c8 : peekZ zs (p : Int) = 40
  · rw [if_pos c8]; exact Nat.le_trans h2 (by decide)
  rw [if_neg c8]
  by_cases c9 : peekZ zs (p : Int) = 60
  · rw [if_pos c9]; exact Nat.le_trans h3 (by decide)
  rw [if_neg c9]
  exact Nat.zero_le _
theorem tokT_len (zs : List Int) (p : Nat) : (tokT zs p).b.length ≤ 1000000 := by
  unfold tokT
  split
  · exact tokZ_len zs _
  · exact Nat.zero_le _
theorem LS.onlyM {w W W' : World} {h g m n c p : Nat} {A : Option Addr} {zs : List Int} (x : LS w W h g A n c p zs) (ho : Only m W W') (h1 : g < m) (h2 : h < m) (h3 : m ≤ W.heap.size) : LS w W' h g A n c p zs :=
  ⟨x.lx.keep2 (ho.block h x.lx.lt (Nat.ne_of_lt h2)) (ho.block g x.lx.cu.lt (Nat.ne_of_lt h1)), x.bt.only ho (Nat.le_of_lt h1) h3, x.lo, x.bl.trans (ho.belowB (Nat.le_trans x.lo (Nat.le_of_lt h1)) h3)⟩
/-- A token of the project's as one of the document's. -/
theorem ltokenC (k a v : Int) (A : Option Addr) (m c : Nat) (w : World) : Calls Try.prog 15 #[tkA k a v A m c] w fun e w' => e = .returned (tkA k a v A m c) ∧ Below w.heap.size w w' := by
  have HB := Lib.hid ((Below.refl w.heap.size w).alloc (Nat.le_refl _) (.cells #[.int .i64 k, .int .i64 a, .int .i64 v, .slice A m c] 28))
  have hn1 := Bx.new w 28 (.int .i64 k) (.int .i64 a) (.int .i64 v) (.slice A m c)
  obtain ⟨w1, hw1⟩ : ∃ w1, w.alloc (.cells #[.int .i64 k, .int .i64 a, .int .i64 v, .slice A m c] 28) = w1 := ⟨_, rfl⟩
  have hs1 : w1.heap.size = w.heap.size + 1 := by rw [← hw1]; simp
  rw [hw1] at hn1 HB
  have hb2 := (Below.refl w1.heap.size w1).alloc (Nat.le_refl _) (.cells #[.int .i64 0, .int .i64 0, .int .i64 0, .slice none 0 0] 35)
  have hn2 := Bx.new w1 35 (.int .i64 0) (.int .i64 0) (.int .i64 0) (.slice none 0 0)
  obtain ⟨w2, hw2⟩ : ∃ w2, w1.alloc (.cells #[.int .i64 0, .int .i64 0, .int .i64 0, .slice none 0 0] 35) = w2 := ⟨_, rfl⟩
  rw [hw2] at hb2 hn2
  rw [hs1] at hn2
  have HN2 := Lib.hid hn2
  have HB2 := Lib.hid (HB.out.trans (hb2.mono HB.out.size))
  have hn12 := hn1.below hb2 hn1.lt
  have t0 := hn12.c0
  have t1 := hn12.c1
  have t2 := hn12.c2
  have t3 := hn12.c3
  have r0 := hn2.c0
  have r1 := hn2.c1
  have r2 := hn2.c2
  have r3 := hn2.c3
  have rf := hn2.fr
  have HW1 := Lib.hid hw1
  have HW2 := Lib.hid hw2
  have HS1 := Lib.hid hs1
  clear hn1 hn2 hb2 hn12 hw1 hw2 hs1
  go_enter Try.func15, Try.ntmps15
  go_upto_region 1 with fail
  rw [HW1.out, HW2.out]
  go_wp2_with fail
  refine bodyPost_ret (results_cell_row rfl _ _ (w.heap.size + 1) 35 _ (0, 0) _ rfl HN2.out.set4_ Try.underlying35 rfl (by kernel_rfl)) rfl ?_
  exact ⟨rfl, (((HB2.out.setCell (p := ⟨w.heap.size + 1, 0, none⟩) (Nat.le_succ _) _).setCell (p := ⟨w.heap.size + 1, 1, none⟩) (Nat.le_succ _) _).setCell (p := ⟨w.heap.size + 1, 2, none⟩) (Nat.le_succ _) _).setCell (p := ⟨w.heap.size + 1, 3, none⟩) (Nat.le_succ _) _⟩
/-- Two tokens alike. -/
theorem lsameC (k a v : Int) (A A2 : Option Addr) (m c c2 : Nat) (b : List Int) (w : World) (h1 : Byt w w.heap.size A m c b) (h2 : Byt w w.heap.size A2 m c2 b) (hm : m ≤ 1000000) : Calls Try.prog 14 #[tkA k a v A m c, tkA k a v A2 m c2] w fun e w' => e = .returned (.bool true) ∧ Below w.heap.size w w' := by
  have HB := Lib.hid ((Below.refl w.heap.size w).alloc (Nat.le_refl _) (.cells #[.int .i64 k, .int .i64 a, .int .i64 v, .slice A m c] 35))
  have hn1 := Bx.new w 35 (.int .i64 k) (.int .i64 a) (.int .i64 v) (.slice A m c)
  obtain ⟨w1, hw1⟩ : ∃ w1, w.alloc (.cells #[.int .i64 k, .int .i64 a, .int .i64 v, .slice A m c] 35) = w1 := ⟨_, rfl⟩
  have hs1 : w1.heap.size = w.heap.size + 1 := by rw [← hw1]; simp
  rw [hw1] at hn1 HB
  have hb2 := (Below.refl w1.heap.size w1).alloc (Nat.le_refl _) (.cells #[.int .i64 k, .int .i64 a, .int .i64 v, .slice A2 m c2] 35)
  have hn2 := Bx.new w1 35 (.int .i64 k) (.int .i64 a) (.int .i64 v) (.slice A2 m c2)
  obtain ⟨w2, hw2⟩ : ∃ w2, w1.alloc (.cells #[.int .i64 k, .int .i64 a, .int .i64 v, .slice A2 m c2] 35) = w2 := ⟨_, rfl⟩
  rw [hw2] at hb2 hn2
  rw [hs1] at hn2
  have HB2 := Lib.hid (HB.out.trans (hb2.mono HB.out.size))
  have hn12 := hn1.below hb2 hn1.lt
  have t0 := hn12.c0
  have t1 := hn12.c1
  have t2 := hn12.c2
  have t3 := hn12.c3
  have r0 := hn2.c0
  have r1 := hn2.c1
  have r2 := hn2.c2
  have r3 := hn2.c3
  have HSM := Lib.hid (refSame_yes A A2 m c _ c2 _ b w2 (h1.below HB2.out (Nat.le_refl _)) (h2.below HB2.out (Nat.le_refl _)) (by omega))
  have HW1 := Lib.hid hw1
  have HW2 := Lib.hid hw2
  clear hn1 hn2 hb2 hn12 hw1 hw2 h1 h2 hs1
  go_enter Try.func14, Try.ntmps14
  go_upto_region 1 with fail
  rw [HW1.out, HW2.out]
  go_wp2_with (go_at_call 26; refine HSM.out.mono ?_; (rintro r w5 ⟨rfl, q5, rfl⟩); (try dsimp only))
  go_ret
  exact ⟨rfl, below_drewN HB2.out q5⟩
/-- Both lexers, at one place. -/
structure QS (w W : World) (h g m : Nat) (A : Option Addr) (n c p : Nat) (zs : List Int) : Prop where
  ls : LS w W h g A n c p zs
  ld : LD W m 34 [] A n c p
  gm : g < m ∧ h < m
section
variable {w W W' : World} {h g m n c p q : Nat} {A : Option Addr} {zs : List Int}
theorem QS.low (x : QS w W h g m A n c p zs) (hb : Below W.heap.size W W') : QS w W' h g m A n c p zs := ⟨x.ls.low hb, x.ld.below hb x.ld.lt, x.gm⟩
theorem QS.alloc (x : QS w W h g m A n c p zs) (o : Obj) : QS w (W.alloc o) h g m A n c p zs := x.low ((Below.refl _ _).alloc (Nat.le_refl _) o)
end
end Go.Proofs.Ytojbhckgegoldaa
