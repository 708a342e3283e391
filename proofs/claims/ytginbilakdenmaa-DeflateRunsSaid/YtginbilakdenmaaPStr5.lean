/- Chapter 5, the project's own writer: begin, stored, Stored. -/
import Derived.Test.YtginbilakdenmaaPRow5B
import Derived.Test.YtginbilakdenmaaRef4Join
import Derived.Test.YtginbilakdenmaaZl5
namespace Go.Proofs.Ytginbilakdenmaa
open Go.RowKit
set_option linter.unusedVariables false
set_option maxRecDepth 100000

/-- A writer's call: its row alone went on. -/
def Wrote (g : Nat) (T : TypeId) (bs : List Nat) (L : List Int) (w : World) (r : Ending) (w' : World) : Prop := r = .returned (.tuple #[]) ∧ ∃ bs', PW w' g T bs' L ∧ Only g w w' ∧ ∀ b, b ∈ bs' → b ∈ bs ∨ w.heap.size ≤ b
theorem put_in5 (g : Nat) (T : TypeId) (bs : List Nat) (L : List Int) (n : Int) (k : Nat) (w : World) (h : PW w g T bs L) (hL : L.length ≤ 700000000) (hk : k ≤ 16) (n0 : -9223372036854775808 ≤ n) (n1 : n ≤ 9223372036854775807) (W : Int) (hW : W = k) :
    Calls Try.prog 10 #[.pointer (some ⟨g, 0, none⟩), .int .i64 n, .int .i64 W] w (Wrote g T bs (L ++ lowb n k) w) := by
  subst hW
  have := pputC g T bs L n k w h hL n0 n1
  rw [putB_in L n k hk] at this
  exact this
theorem in_trans {bs bs1 bs2 : List Nat} {a b : Nat} (h1 : ∀ x, x ∈ bs1 → x ∈ bs ∨ a ≤ x) (h2 : ∀ x, x ∈ bs2 → x ∈ bs1 ∨ b ≤ x) (hab : a ≤ b) : ∀ x, x ∈ bs2 → x ∈ bs ∨ a ≤ x := fun x hx => by
  rcases h2 x hx with h | h
  · exact h1 x h
  · exact .inr (Nat.le_trans hab h)
def kindB (k : Int) (last : Bool) : List Int := [if last then 1 else 0] ++ lowb k 2
set_option maxHeartbeats 1000000 in
theorem beginC (g : Nat) (T : TypeId) (bs : List Nat) (L : List Int) (k : Int) (last : Bool) (w : World) (h : PW w g T bs L) (hL : L.length ≤ 600000000) (k0 : 0 ≤ k) (k1 : k ≤ 3) :
    Calls Try.prog 27 #[.pointer (some ⟨g, 0, none⟩), .int .i64 k, .bool last] w (Wrote g T bs (L ++ kindB k last) w) := by
  have hp1 := put_in5 g T bs L (if last then 1 else 0) 1 w h (by omega) (by omega) (by split <;> omega) (by split <;> omega) 1 rfl
  have hp2 := fun W bs1 (hW : PW W g T bs1 (L ++ lowb (if last then 1 else 0) 1)) => put_in5 g T bs1 _ k 2 W hW (by rw [List.length_append, lowb_len]; omega) (by omega) (by omega) (by omega) 2 rfl
  have he : L ++ lowb (if last then 1 else 0) 1 ++ lowb k 2 = L ++ kindB k last := by
    unfold kindB
    rw [List.append_assoc]
    cases last <;> rfl
  clear h
  cases last
  all_goals
    simp only [Bool.false_eq_true, if_false, if_true] at hp1 hp2 he
    have HP1 := Lib.hid hp1
    have HP2 := Lib.hid hp2
    have HE := Lib.hid he
    clear hp1 hp2 he
    go_enter Try.func27, Try.ntmps27
    go_wp2_with (first
      | (go_at_call 10; (with_reducible refine HP1.out.mono ?_); rintro r w2 ⟨rfl, bs2, hp2, ho2, hb2⟩; have HW2 := Lib.hid hp2; have HO2 := Lib.hid ho2; have HB2 := Lib.hid hb2; clear hp2 ho2 hb2)
      | (go_at_call 10; (with_reducible refine (HP2.out _ _ HW2.out).mono ?_); rintro r w3 ⟨rfl, bs3, hp3, ho3, hb3⟩; have HW3 := Lib.hid hp3; have HO3 := Lib.hid (HO2.out.trans ho3); have HB3 := Lib.hid (in_trans HB2.out hb3 HO2.out.size); clear hp3 ho3 hb3))
    (try simp only [Exit.inBlock, Exit.then])
    refine ⟨rfl, _, results_none rfl _ _ _, ?_⟩
    exact ⟨rfl, bs3, by rw [← HE.out]; exact HW3.out, HO3.out, HB3.out⟩
def headZ (last : Bool) (n : Nat) : List Int := [if last then 1 else 0, ((n % 256 : Nat) : Int), ((n / 256 : Nat) : Int), 255 - ((n % 256 : Nat) : Int), 255 - ((n / 256 : Nat) : Int)]
theorem bitsOf_app (X Y : List Int) : bitsOf (X ++ Y) = bitsOf X ++ bitsOf Y := by simp [bitsOf]
theorem low16 (v : Int) : lowb v 16 = lowb (v % 256) 8 ++ lowb (v / 256 % 256) 8 := by
  simp only [lowb, List.nil_append, List.cons_append, List.cons.injEq, and_true]
  refine ⟨?_, ?_, ?_, ?_, ?_, ?_, ?_, ?_, ?_, ?_, ?_, ?_, ?_, ?_, ?_, ?_⟩ <;> omega
theorem str_head (Z : List Int) (last : Bool) : padB (bitsOf Z ++ kindB 0 last) = bitsOf (Z ++ [if last then 1 else 0]) := by
  rw [bitsOf_app]
  unfold padB
  have hl : (kindB 0 last).length = 3 := by unfold kindB; rw [List.length_append, lowb_len]; rfl
  rw [List.length_append, bitsOf_len, hl, show 8 * ((8 * Z.length + 3 + 7) / 8) - (8 * Z.length + 3) = 5 by omega, List.append_assoc]
  congr 1
  cases last <;> decide
theorem str_n (X : List Int) (n : Nat) (hn : n ≤ 65535) : bitsOf X ++ lowb (n : Int) 16 = bitsOf (X ++ [((n % 256 : Nat) : Int), ((n / 256 : Nat) : Int)]) := by
  rw [bitsOf_app, low16, show (n : Int) % 256 = ((n % 256 : Nat) : Int) by omega, show (n : Int) / 256 % 256 = ((n / 256 : Nat) : Int) by omega]
  simp [bitsOf]
theorem str_m (X : List Int) (n : Nat) (hn : n ≤ 65535) : bitsOf X ++ lowb (-(n : Int) - 1) 16 = bitsOf (X ++ [255 - ((n % 256 : Nat) : Int), 255 - ((n / 256 : Nat) : Int)]) := by
  rw [bitsOf_app, low16, show (-(n : Int) - 1) % 256 = 255 - ((n % 256 : Nat) : Int) by omega, show (-(n : Int) - 1) / 256 % 256 = 255 - ((n / 256 : Nat) : Int) by omega]
  simp [bitsOf]
theorem head_eq (Z : List Int) (last : Bool) (n : Nat) : Z ++ [if last then 1 else 0] ++ [((n % 256 : Nat) : Int), ((n / 256 : Nat) : Int)] ++ [255 - ((n % 256 : Nat) : Int), 255 - ((n / 256 : Nat) : Int)] = Z ++ headZ last n := by simp [headZ]
set_option maxHeartbeats 2000000 in
theorem pstored (g : Nat) (T : TypeId) (bs : List Nat) (B n c : Nat) (A : Option Addr) (Z zs : List Int) (last : Bool) (w : World) (h : PW w g T bs (bitsOf Z)) (hZ : Z.length ≤ 70000000) (hb : Byt w B A n c zs) (hB : B ≤ g) (hn : n ≤ 65535) :
    Calls Try.prog 26 #[.pointer (some ⟨g, 0, none⟩), .slice A n c, .bool last] w (Wrote g T bs (bitsOf (Z ++ headZ last n ++ zs)) w) := by
  have HB := Lib.hid hb
  have HLEN := Lib.hid hb.len
  have HZ := Lib.hid hZ
  have HGL := Lib.hid h.lt
  have HK := Lib.hid (beginC g T bs (bitsOf Z) 0 last w h (by rw [bitsOf_len]; omega) (by omega) (by omega))
  have HAL := Lib.hid (fun W bs1 (hW : PW W g T bs1 (bitsOf Z ++ kindB 0 last)) => palign5 g T bs1 _ W hW (by rw [List.length_append, bitsOf_len]; unfold kindB; rw [List.length_append, lowb_len]; simp; omega))
  have HN1 := Lib.hid (fun W bs1 (hW : PW W g T bs1 (bitsOf (Z ++ [if last then 1 else 0]))) => put_in5 g T bs1 _ (n : Int) 16 W hW (by rw [bitsOf_len, List.length_append]; simp; omega) (by omega) (by omega) (by omega) 16 rfl)
  have HN2 := Lib.hid (fun W bs1 (hW : PW W g T bs1 (bitsOf (Z ++ [if last then 1 else 0] ++ [((n % 256 : Nat) : Int), ((n / 256 : Nat) : Int)]))) => put_in5 g T bs1 _ (-(n : Int) - 1) 16 W hW (by rw [bitsOf_len, List.length_append, List.length_append]; simp; omega) (by omega) (by omega) (by omega) 16 rfl)
  have HPUT := Lib.hid (fun W bs1 (k : Nat) (x : Int) (hk : k ≤ n) (hx : 0 ≤ x ∧ x < 256) (hW : PW W g T bs1 (bitsOf (Z ++ headZ last n ++ zs.take k))) => put_in5 g T bs1 _ x 8 W hW (by rw [bitsOf_len, List.length_append, List.length_append, List.length_take]; simp [headZ]; omega) (by omega) (by omega) (by omega) 8 rfl)
  obtain ⟨Y, hY⟩ : ∃ Y : Int, bits .xor .i64 (-1) (n : Int) = Y := ⟨_, rfl⟩
  have hYv : Y = -(n : Int) - 1 := by rw [← hY]; exact not_int n (by omega)
  have hY2 : bits .xor .i64 (if IntKind.i64.signed = true then (-1) else 9223372036854775807) (n : Int) = Y := hY
  rw [← hYv] at HN2
  have HYV := Lib.hid hYv
  clear h hb hYv hZ
  go_enter Try.func26, Try.ntmps26
  go_upto_region 5 with (first
    | (go_at_call 27; (with_reducible refine HK.out.mono ?_); (rintro r w1 ⟨rfl, bs1, hp1, ho1, hb1⟩); have HW1 := Lib.hid hp1; have HO1 := Lib.hid ho1; have HB1 := Lib.hid hb1; clear hp1 ho1 hb1)
    | (go_at_call 11; (with_reducible refine (HAL.out _ _ HW1.out).mono ?_); (rintro r w2 ⟨rfl, bs2, hp2, ho2, hb2⟩); rw [str_head] at hp2; have HW2 := Lib.hid hp2; have HO2 := Lib.hid (HO1.out.trans ho2); have HB2 := Lib.hid (in_trans HB1.out hb2 HO1.out.size); clear hp2 ho2 hb2 HO1 HB1)
    | (go_at_call 10; (with_reducible refine (HN1.out _ _ HW2.out).mono ?_); (rintro r w3 ⟨rfl, bs3, hp3, ho3, hb3⟩); rw [str_n _ n hn] at hp3; have HW3 := Lib.hid hp3; have HO3 := Lib.hid (HO2.out.trans ho3); have HB3 := Lib.hid (in_trans HB2.out hb3 HO2.out.size); clear hp3 ho3 hb3 HO2 HB2)
    | (go_at_call 10; (with_reducible refine (HN2.out _ _ HW3.out).mono ?_); (rintro r w4 ⟨rfl, bs4, hp4, ho4, hb4⟩); rw [HYV.out, str_m _ n hn, head_eq] at hp4; have HW4 := Lib.hid hp4; have HO4 := Lib.hid (HO3.out.trans ho4); have HB4 := Lib.hid (in_trans HB3.out hb4 HO3.out.size); clear hp4 ho4 hb4 HO3 HB3))
  clear HK HAL HN1 HN2 HW1 HW2 HW3 hY hY2
  go_loopw [7, 30] (fun cv kv wr => ∃ (k : Nat) (bsk : List Nat), k ≤ n ∧ kv = .int .i64 k ∧ Hid (PW wr g T bsk (bitsOf (Z ++ headZ last n ++ zs.take k))) ∧ Hid (Only g w wr) ∧ Hid (∀ b, b ∈ bsk → b ∈ bs ∨ w.heap.size ≤ b)) (fun _ kv _ => n - (intOf kv).toNat)
  case atStart => exact ⟨0, bs4, Nat.zero_le _, rfl, Lib.hid (by simpa using HW4.out), HO4, HB4⟩
  case round =>
    obtain ⟨k, bsk, hk, rfl, HW, HO, HBS⟩ := hrel
    by_cases hlt : k < n
    · obtain ⟨x, hx⟩ : ∃ x, zs.getD k 0 = x := ⟨_, rfl⟩
      have hby := HB.out.only HO.out hB (Nat.le_of_lt HGL.out)
      obtain ⟨b, o, rfl, hbl, hcell⟩ := hby.cell (by omega)
      have hck := hcell k hlt
      have hxr := hby.getD k
      rw [hx] at hck hxr
      have hbits : bitsOf (Z ++ headZ last n ++ zs.take k) ++ lowb x 8 = bitsOf (Z ++ headZ last n ++ zs.take (k + 1)) := by
        rw [take_snocZ zs k (by rw [HLEN.out]; exact hlt), hx, ← List.append_assoc, bitsOf_snoc]
      have HBITS := Lib.hid hbits
      have HXR := Lib.hid hxr
      have hw8 : wrap64 x = x := by unfold wrap64; omega
      clear hx hby hcell hxr hbits
      go_wp2_with (go_at_call 10; (with_reducible refine (HPUT.out _ _ k x hk HXR.out HW.out).mono ?_); (rintro r w5 ⟨rfl, bs5, hp5, ho5, hb5⟩); rw [HBITS.out] at hp5; have HW5 := Lib.hid hp5; have HO5 := Lib.hid (HO.out.trans ho5); have HB5 := Lib.hid (in_trans HBS.out hb5 HO.out.size); clear hp5 ho5 hb5)
      go_roundw
      case rel => exact ⟨k + 1, bs5, hlt, by go_num, HW5, HO5, HB5⟩
      case measure => simp [intOf]; omega
    · obtain rfl : k = n := by omega
      go_wp2_with fail
      (try simp only [Exit.inBlock, Exit.then])
      refine ⟨rfl, _, results_none rfl _ _ _, ?_⟩
      exact ⟨rfl, bsk, by have := HW.out; rw [List.take_of_length_le (by rw [HLEN.out]; exact Nat.le_refl _)] at this; exact this, HO.out, HBS.out⟩
def lenOf5 : Value → Nat
  | .slice _ n _ => n
  | _ => 0
/-- The bytes in pieces of 65535. -/
def chF : Nat → List Int → List (List Int)
  | 0, zs => [zs]
  | f + 1, zs => if zs.length ≤ 65535 then [zs] else zs.take 65535 :: chF f (zs.drop 65535)
def chunksS (zs : List Int) : List (List Int) := chF zs.length zs
theorem chF_ne : ∀ f zs, chF f zs ≠ []
  | 0, zs => by simp [chF]
  | f + 1, zs => by rw [chF]; split <;> simp
theorem chF_one (f : Nat) (zs : List Int) (h : zs.length ≤ 65535) : chF f zs = [zs] := by
  cases f
  · rfl
  · rw [chF, if_pos h]
theorem joinZ_cons (l : List Int) (r : List (List Int)) (h : r ≠ []) : joinZ (l :: r) = headZ false l.length ++ l ++ joinZ r := by
  cases r with
  | nil => exact absurd rfl h
  | cons a r => simp [joinZ, headZ]
theorem joinZ_one (l : List Int) : joinZ [l] = headZ true l.length ++ l := by simp [joinZ, headZ]
theorem chF_len : ∀ f zs, zs.length ≤ f + 65535 → (joinZ (chF f zs)).length ≤ 6 * zs.length + 5
  | 0, zs, _ => by simp [chF, joinZ]; omega
  | f + 1, zs, h => by
    rw [chF]
    split
    · simp [joinZ]; omega
    · have := chF_len f (zs.drop 65535) (by rw [List.length_drop]; omega)
      rw [joinZ_cons _ _ (chF_ne _ _), List.length_append, List.length_append]
      rw [List.length_drop] at this
      simp only [headZ, List.length_cons, List.length_nil, List.length_take]
      omega
theorem head_rng (last : Bool) (n : Nat) (h : n ≤ 65535) : ∀ z ∈ headZ last n, 0 ≤ z ∧ z < 256 := fun z hz => by
  simp only [headZ, List.mem_cons, List.not_mem_nil, or_false] at hz
  rcases hz with rfl | rfl | rfl | rfl | rfl
  · cases last <;> simp
  all_goals omega
theorem chF_rng : ∀ f zs, (∀ z ∈ zs, 0 ≤ z ∧ z < 256) → zs.length ≤ f + 65535 → ∀ z ∈ joinZ (chF f zs), 0 ≤ z ∧ z < 256
  | 0, zs, hz, h => fun z hm => by
    rw [chF, joinZ_one] at hm
    rcases List.mem_append.1 hm with hm | hm
    · exact head_rng _ _ (by omega) z hm
    · exact hz z hm
  | f + 1, zs, hz, h => fun z hm => by
    rw [chF] at hm
    by_cases hc : zs.length ≤ 65535
    · rw [if_pos hc, joinZ_one] at hm
      rcases List.mem_append.1 hm with hm | hm
      · exact head_rng _ _ hc z hm
      · exact hz z hm
    · rw [if_neg hc, joinZ_cons _ _ (chF_ne _ _)] at hm
      rcases List.mem_append.1 hm with hm | hm
      · rcases List.mem_append.1 hm with hm | hm
        · exact head_rng _ _ (by rw [List.length_take]; omega) z hm
        · exact hz z (List.mem_of_mem_take hm)
      · exact chF_rng f (zs.drop 65535) (fun y hy => hz y (List.mem_of_mem_drop hy)) (by rw [List.length_drop]; omega) z hm
theorem pw_new (w : World) : PW (w.alloc (.cells Try.zeroCells53 53)) w.heap.size 53 [] [] := by
  refine ⟨⟨.pointer none, List.replicate 256 0, ⟨?_, by simp, ⟨rfl, rfl⟩, rfl, rfl, fun b hb => (by cases hb), fun z hz => (by cases hz)⟩⟩, B01.nil⟩
  rw [heap_alloc_new w]
  rfl
set_option maxHeartbeats 2000000 in
theorem pStored (A : Option Addr) (n c : Nat) (zs : List Int) (w : World) (hb : Byt w w.heap.size A n c zs) (hn : n ≤ 1000000) :
    Calls Try.prog 14 #[.slice A n c] w fun r w' => ∃ v, r = .returned v ∧ Mine w' w.heap.size v (joinZ (chunksS zs)).length (joinZ (chunksS zs)) ∧ Below w.heap.size w w' := by
  have HB := Lib.hid hb
  have HLEN := Lib.hid hb.len
  have HW0 := Lib.hid (pw_new w)
  obtain ⟨J, hJ⟩ : ∃ J, joinZ (chunksS zs) = J := ⟨_, rfl⟩
  have HJR : Hid (∀ z ∈ J, 0 ≤ z ∧ z < 256) := Lib.hid (by rw [← hJ]; exact chF_rng _ _ hb.rng (by omega))
  have hJl : J.length ≤ 6 * n + 5 := by rw [← hJ, ← hb.len]; exact chF_len _ _ (by omega)
  have HJL := Lib.hid hJl
  have HJ : Hid ([] ++ joinZ (chF zs.length zs) = J) := Lib.hid hJ
  rw [hJ]
  clear hb hJ hJl
  go_enter Try.func14, Try.ntmps14
  go_upto_region 2 with fail
  go_loopw [0] (fun av wr => ∃ (A1 : Option Addr) (n1 c1 f : Nat) (Z X : List Int) (bs : List Nat), n1 ≤ n ∧ av = .slice A1 n1 c1 ∧ Hid (Byt wr w.heap.size A1 n1 c1 X) ∧ Hid (Z ++ joinZ (chF f X) = J ∧ n1 ≤ f + 65535) ∧ Hid (PW wr w.heap.size 53 bs (bitsOf Z)) ∧ Hid (Below w.heap.size w wr)) (fun av _ => lenOf5 av)
  case atStart => exact ⟨A, n, c, zs.length, [], zs, [], Nat.le_refl _, rfl, Lib.hid (HB.out.alloc (Nat.le_refl _) _), Lib.hid ⟨HJ.out, by have := HLEN.out; omega⟩, HW0, Lib.hid ((Below.refl _ _).alloc (Nat.le_refl _) _)⟩
  case round =>
    obtain ⟨A1, n1, c1, f, Z, X, bs, hn1, rfl, HX, HE, HW, HBE⟩ := hrel
    have hzl : Z.length ≤ 6000005 := by
      have h1 := congrArg List.length HE.out.1
      rw [List.length_append] at h1
      have := HJL.out
      omega
    have hxl := HX.out.len
    have hcp := HX.out.cap
    have hlt := HW.out.lt
    by_cases hgt : 65535 < n1
    · have hie : (65535 : Int) < n1 := by omega
      obtain ⟨f, rfl⟩ : ∃ j, f = j + 1 := ⟨f - 1, by have := HE.out.2; omega⟩
      have he := HE.out.1
      rw [chF, if_neg (by omega), joinZ_cons _ _ (chF_ne _ _), List.length_take, Nat.min_eq_left (by omega), ← List.append_assoc, ← List.append_assoc] at he
      have hs0 : ∀ W, (Instr.slice 29 (.slice A1 n1 c1) none (some (.int .i64 65535)) none).run Try.prog W = .ok (.slice (cutA A1 c1 0) 65535 c1) W := fun W => run_cut0 (P := Try.prog) W 29 5 Try.underlying29 (fun w => by kernel_rfl) A1 n1 c1 65535 (by omega)
      have hs1 : ∀ W, (Instr.slice 29 (.slice A1 n1 c1) (some (.int .i64 65535)) none none).run Try.prog W = .ok (.slice (cutA A1 c1 65535) (n1 - 65535) (c1 - 65535)) W := fun W => run_cutR (P := Try.prog) W 29 5 Try.underlying29 (fun w => by kernel_rfl) A1 n1 c1 65535 (by omega) hcp
      have HST := Lib.hid (pstored w.heap.size _ bs w.heap.size 65535 c1 (cutA A1 c1 0) Z (X.take 65535) false wr HW.out (by omega) (HX.out.first (by omega)) (Nat.le_refl _) (Nat.le_refl _))
      have HX1 := Lib.hid (HX.out.cut (l := 65535) (m := n1 - 65535) (by omega))
      rw [List.take_of_length_le (by rw [List.length_drop]; omega)] at HX1
      have HE1 := Lib.hid he
      have HHE := Lib.hid HE.out.2
      have HLT := Lib.hid (Nat.le_of_lt hlt)
      have hm : n1 - 65535 < n1 := by omega
      obtain ⟨A0, hA0⟩ : ∃ A0, cutA A1 c1 0 = A0 := ⟨_, rfl⟩
      obtain ⟨A2, hA2⟩ : ∃ A2, cutA A1 c1 65535 = A2 := ⟨_, rfl⟩
      obtain ⟨n2, hn2⟩ : ∃ n2, n1 - 65535 = n2 := ⟨_, rfl⟩
      obtain ⟨c2, hc2⟩ : ∃ c2, c1 - 65535 = c2 := ⟨_, rfl⟩
      rw [hA0] at hs0 HST
      rw [hA2, hn2, hc2] at hs1
      rw [hA2, hn2, hc2] at HX1
      have HN2 := Lib.hid hn2
      clear he hzl hxl hcp hlt hA0 hA2 hc2 HX HE hn2 hm
      go_wp2_with (go_at_call 26; (with_reducible refine HST.out.mono ?_); (rintro r w3 ⟨rfl, bs3, hp3, ho3, hb3⟩); have HW3 := Lib.hid hp3; have HB3 := Lib.hid (HBE.out.trans (ho3.below HLT.out)); have HX3 := Lib.hid (HX1.out.only ho3 (Nat.le_refl _) HLT.out); clear hp3 ho3 hb3)
      go_roundw
      case rel => exact ⟨A2, n2, c2, f, _, _, bs3, by have := HN2.out; omega, rfl, HX3, Lib.hid ⟨HE1.out, by have := HN2.out; have := HHE.out; omega⟩, HW3, HB3⟩
      case measure => have := HN2.out; simp [lenOf5]; omega
    · have hie : ¬ (65535 : Int) < n1 := by omega
      have he := HE.out.1
      rw [chF_one f X (by omega), joinZ_one, ← List.append_assoc, hxl] at he
      have HE1 := Lib.hid he
      have HST := Lib.hid (pstored w.heap.size _ bs w.heap.size n1 c1 A1 Z X true wr HW.out (by omega) HX.out (Nat.le_refl _) (by omega))
      have HLT := Lib.hid (Nat.le_of_lt hlt)
      have HRZ := Lib.hid HX.out.rng
      have HBY := Lib.hid (fun W bs1 (hW : PW W w.heap.size 53 bs1 (bitsOf J)) => pbytes5 w.heap.size _ bs1 _ W hW (by rw [bitsOf_len]; have := HJL.out; omega))
      clear he hzl hxl hcp hlt HX HE
      go_wp2_with (first
        | (go_at_call 26; (with_reducible refine HST.out.mono ?_); (rintro r w3 ⟨rfl, bs3, hp3, ho3, hb3⟩); rw [HE1.out] at hp3; have HW3 := Lib.hid hp3; have HB3 := Lib.hid (HBE.out.trans (ho3.below HLT.out)); clear hp3 ho3 hb3)
        | (go_at_call 13; (with_reducible refine (HBY.out _ _ HW3.out).mono ?_); (rintro r w4 ⟨v4, rfl, hm4, hb4⟩); have HM4 := Lib.hid (hm4.base HB3.out.size); have HB4 := Lib.hid (HB3.out.trans (hb4.mono HB3.out.size)); clear hm4 hb4))
      go_ret
      exact ⟨_, rfl, by rw [pack_bits J HJR.out] at HM4; exact HM4.out, HB4.out⟩
end Go.Proofs.Ytginbilakdenmaa
