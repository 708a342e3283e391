/- Contracts of functions that the law calls, and what they lean on (a part). -/
import Derived.Test.YtpomkhcobpihmaaBla21
import Derived.Test.YtpomkhcobpihmaaBla23
namespace Go.Proofs.Ytpomkhcobpihmaa
section
open Go.RowKit
set_option linter.unusedVariables false
set_option maxRecDepth 100000
/-- A lexer that the call made, over bytes zs. -/
structure LS (w W : World) (h g : Nat) (A : Option Addr) (n c p : Nat) (zs : List Int) : Prop where
  lx : LX W h g A n c p
  bt : Byt W g A n c zs
  lo : w.heap.size ≤ g
  bl : Below w.heap.size w W
section
variable {w W W' : World} {h g n c p q : Nat} {A : Option Addr} {zs : List Int}
theorem LS.low (x : LS w W h g A n c p zs) (hb : Below W.heap.size W W') : LS w W' h g A n c p zs :=
  ⟨x.lx.below hb x.lx.lt x.lx.cu.lt, x.bt.below hb (Nat.le_of_lt x.lx.cu.lt), x.lo, x.bl.trans (hb.mono (Nat.le_trans x.lo (Nat.le_of_lt x.lx.cu.lt)))⟩
theorem LS.alloc (x : LS w W h g A n c p zs) (o : Obj) : LS w (W.alloc o) h g A n c p zs := x.low ((Below.refl _ _).alloc (Nat.le_refl _) o)
theorem LS.moved (x : LS w W h g A n c p zs) (hl : LX W' h g A n c q) (ho : Only g W W') : LS w W' h g A n c q zs :=
  ⟨hl, x.bt.only ho (Nat.le_refl _) (Nat.le_of_lt x.lx.cu.lt), x.lo, x.bl.trans (ho.belowB x.lo (Nat.le_of_lt x.lx.cu.lt))⟩
/-- New. -/
theorem ls_new (w W : World) (A : Option Addr) (n c : Nat) (zs : List Int) (hb : Byt W W.heap.size A n c zs) (hbl : Below w.heap.size w W) :
    Calls Try.prog 36 #[.slice A n c] W fun e w' => e = .returned (.pointer (some ⟨W.heap.size + 1, 0, none⟩)) ∧ LS w w' (W.heap.size + 1) W.heap.size A n c 0 zs ∧ w'.heap.size = W.heap.size + 2 ∧ Below W.heap.size W w' :=
  (plnewC A n c W).mono fun _ _ ⟨h1, h2, h3, h4⟩ => ⟨h1, ⟨h2, hb.below h4 (Nat.le_refl _), hbl.size, hbl.trans (h4.mono hbl.size)⟩, h3, h4⟩
/-- Token. -/
def LTok (w : World) (h g : Nat) (A : Option Addr) (n c : Nat) (zs : List Int) (t : Tk) (at_ : Nat) (W : World) (r : Ending) (w' : World) : Prop :=
  ∃ (A' : Option Addr) (m c' : Nat), r = .returned (.tuple #[tkA t.k at_ t.v A' m c', .int .i64 t.e]) ∧ LS w w' h g A n c t.q zs ∧ Only g W w' ∧ Byt w' w'.heap.size A' m c' t.b ∧ From W.heap.size A' m
theorem ls_tok (hn : n ≤ 900000) (x : LS w W h g A n c p zs) {t : Tk} {a : Nat} (ht : tokT zs p = t) (ha : blkP zs p = a) :
    Calls Try.prog 37 #[.pointer (some ⟨h, 0, none⟩)] W (LTok w h g A n c zs t a W) := by
  subst ht ha
  refine (ptokC h g n c p g A zs W x.lx x.bt (Nat.le_refl _) hn).mono ?_
  rintro r w' ⟨A', m, c', he, hl, ho, hy, hf⟩
  exact ⟨A', m, c', he, x.moved hl ho, ho, hy, hf⟩
end
theorem conv_str {W : World} {B n c : Nat} {A : Option Addr} {zs : List Int} (hb : Byt W B A n c zs) (s : ByteArray) (hs : strOfNums zs = s) : (convert 23 9 (.slice A n c)).run Try.prog W = .ok (.string s) W := by
  subst hs
  exact hb.inn.convert (P := Try.prog) hb.len c 23 5 9 Try.underlying23 Try.underlying5 Try.underlying9
abbrev zAW : List Int := [47, 65, 35, 52, 50, 32]
set_option maxHeartbeats 2000000 in
theorem awake_any (w : World) : Calls Try.prog 35 #[] w fun e w' => e = .returned (.bool true) ∧ Below w.heap.size w w' := by
  have hby := (byt_lit w (6, 7) zAW (by decide) 6 rfl _ rfl)
  have hbl := (Below.refl w.heap.size w).alloc (Nat.le_refl _) (.cells #[.int .u8 47, .int .u8 65, .int .u8 35, .int .u8 52, .int .u8 50, .int .u8 32] 5 (6, 7))
  obtain ⟨w1, hw1⟩ : ∃ w1, w.alloc (.cells #[.int .u8 47, .int .u8 65, .int .u8 35, .int .u8 52, .int .u8 50, .int .u8 32] 5 (6, 7)) = w1 := ⟨_, rfl⟩
  have hs1 : w1.heap.size = w.heap.size + 1 := by rw [← hw1]; simp
  rw [show (w.alloc (.cells (List.map (Value.int .u8) zAW).toArray 5 (6, 7))) = w1 from hw1, ← hs1] at hby
  rw [hw1] at hbl
  have HNEW := Lib.hid (ls_new w w1 _ 6 6 zAW hby hbl)
  have HT1 := Lib.hid (fun W h g A c (x : LS w W h g A 6 c 0 zAW) => ls_tok (by omega) x (t := ⟨0, 4, 0, [65, 66], 5⟩) (a := 0) (by kernel_rfl) (by kernel_rfl))
  have HT2 := Lib.hid (fun W h g A c (x : LS w W h g A 6 c 5 zAW) => ls_tok (by omega) x (t := ⟨0, 0, 0, [], 6⟩) (a := 6) (by kernel_rfl) (by kernel_rfl))
  have HW1 := Lib.hid hw1
  have kc := fun (w : World) (C : Array Value) (n c : Nat) => Lib.run_convert_bytes_const (P := Try.prog) w 23 5 C n c Try.underlying23 Try.underlying5
  clear hby hbl hs1 hw1
  go_enter Try.func35, Try.ntmps35
  go_upto_region 3 with (first
    | (go_at_call 36; rw [HW1.out]; refine HNEW.out.mono ?_; (rintro r w2 ⟨rfl, hl2, hs2, hb2⟩); have HL2 := Lib.hid hl2; have HS2 := Lib.hid hs2; clear hl2 hs2 hb2)
    | (go_at_call 37; refine (HT1.out _ _ _ _ _ HL2.out).mono ?_; (rintro r w3 ⟨A1, m1, c1, rfl, hl3, ho3, hy3, hf3⟩); obtain rfl : 2 = m1 := hy3.len; have HL3 := Lib.hid hl3; have HY3 := Lib.hid hy3; have HF3 : Hid (From (w1.heap.size + 1) A1 2) := Lib.hid (by have hh := hf3; rw [HS2.out] at hh; exact fun h0 b o e => by have := hh h0 b o e; omega); clear hl3 ho3 hf3 hy3))
  have HG3 := Lib.hid (show w1.heap.size < w3.heap.size from HL3.out.lx.cu.lt)
  obtain ⟨w4, hw4⟩ : ∃ w4, w3.alloc (.cells #[.int .i64 4, .int .i64 0, .int .i64 0, .slice A1 2 c1] 56) = w4 := ⟨_, rfl⟩
  have hbx := Bx.new w3 56 (.int .i64 4) (.int .i64 0) (.int .i64 0) (.slice A1 2 c1)
  have HL4 := Lib.hid (HL3.out.alloc (.cells #[.int .i64 4, .int .i64 0, .int .i64 0, .slice A1 2 c1] 56))
  have HY4 := Lib.hid (HY3.out.alloc (Nat.le_refl _) (.cells #[.int .i64 4, .int .i64 0, .int .i64 0, .slice A1 2 c1] 56))
  rw [hw4] at hbx HL4 HY4
  rw [hw4]
  have HBX := Lib.hid hbx
  clear hbx hw4 HL3 HY3
  go_upto_region 4 with (first
    | (go_at_call 37; refine (HT2.out _ _ _ _ _ HL4.out).mono ?_; (rintro r w5 ⟨A2, m2, c2, rfl, hl5, ho5, hy5, hf5⟩); have HL5 := Lib.hid hl5; have HO5 := Lib.hid ho5; clear hl5 ho5 hf5 hy5))
  obtain ⟨w6, hw6⟩ : ∃ w6, w5.alloc (.cells #[.int .i64 0, .int .i64 6, .int .i64 0, .slice A2 m2 c2] 56) = w6 := ⟨_, rfl⟩
  have hbx := Bx.new w5 56 (.int .i64 0) (.int .i64 6) (.int .i64 0) (.slice A2 m2 c2)
  have hb6 := (Below.refl w5.heap.size w5).alloc (Nat.le_refl _) (.cells #[.int .i64 0, .int .i64 6, .int .i64 0, .slice A2 m2 c2] 56)
  rw [hw6] at hbx hb6
  rw [hw6]
  have hg3 : w1.heap.size < w3.heap.size := by
    have h1 := HL4.out.lx.cu.lt
    have h2 := HBX.out.lt
    have h3 := HG3.out
    omega
  have hb5 := HBX.out.only HO5.out (by omega)
  have hby6 := (HY4.out.onlyF HO5.out HF3.out (Nat.lt_succ_self _) (Nat.le_of_lt HBX.out.lt)).below hb6 (by have := HBX.out.lt; have := HO5.out.size; omega)
  have hbt := hb5.below hb6 (by have := HBX.out.lt; have := HO5.out.size; omega)
  have hbl6 : Below w.heap.size w w6 := (HL5.out.low hb6).bl
  have t0 := hbt.c0
  have t1 := hbt.c1
  have t2 := hbt.c2
  have t3 := hbt.c3
  have u0 := hbx.c0
  have hcv := conv_str hby6 ⟨#[65, 66]⟩ rfl
  have HBL := Lib.hid hbl6
  clear hbx hb6 hw6 hg3 hb5 hby6 hbt hbl6
  go_wp2_with fail
  go_ret
  exact ⟨rfl, HBL.out⟩
end
end Go.Proofs.Ytpomkhcobpihmaa
