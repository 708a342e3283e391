/- Chapter 11, the project's own: a sign passed, a sign matched; a row in a token's box; names. -/
import Derived.Test.YtojbhckgegoldaaLb11
import Derived.Test.YtojbhckgegoldaaFxRead
import Derived.Test.YtojbhckgegoldaaKp8
namespace Go.Proofs.Ytojbhckgegoldaa
open Go.RowKit
set_option linter.unusedVariables false
set_option maxRecDepth 100000

/-- Where one stands behind a sign. -/
def nxP (n p : Nat) : Nat := if p < n then p + 1 else p
theorem nxP_le {n p : Nat} (h : p ≤ n) : nxP n p ≤ n := by unfold nxP; split <;> omega
theorem nxP_in {n p : Nat} (h : p < n) : nxP n p = p + 1 := by unfold nxP; rw [if_pos h]
theorem peekZ_end (zs : List Int) (n p : Nat) (hl : zs.length = n) (h : ¬ p < n) : peekZ zs (p : Int) = -1 := peekZ_nat zs p (by omega)
theorem lxnext (h g n c p B : Nat) (A : Option Addr) (zs : List Int) (w : World) (hx : LX w h g A n c p) (hb : Byt w B A n c zs) (hn : n ≤ 1000000) :
    Calls Try.prog 62 #[.pointer (some ⟨g, 0, none⟩)] w fun e w' => e = .returned (.int .i64 (peekZ zs (p : Int))) ∧ LX w' h g A n c (nxP n p) ∧ Only g w w' := by
  have hpl := hx.pl
  by_cases hlt : p < n
  · refine (next_in g n c p B A zs w hx.cu hb hlt hn).mono ?_
    rintro r w' ⟨rfl, hc, ho⟩
    rw [nxP_in hlt]
    exact ⟨rfl, hx.moved hc ho (by omega), ho⟩
  · obtain rfl : p = n := by omega
    refine (next_out g p c A zs w hx.cu hb.len hn).mono ?_
    rintro r w' ⟨rfl, rfl⟩
    rw [peekZ_end zs p p hb.len hlt, nxP, if_neg hlt]
    exact ⟨rfl, hx, Only.refl _ _⟩
theorem st1_peek (zs : List Int) (p : Nat) (s : UInt8) (hr : ∀ z ∈ zs, 0 ≤ z ∧ z < 256) : stB zs p ⟨#[s]⟩ = decide (peekZ zs (p : Int) = (s.toNat : Int)) := by
  rcases Nat.lt_or_ge p zs.length with hq | hq
  · rw [stB_one zs p s hr hq, peekZ_in zs p hq]
  · rw [stB_end zs p s hq, peekZ_nat zs p hq, decide_eq_false (by omega)]
theorem lxmatch (h g n c p B : Nat) (A : Option Addr) (zs : List Int) (s : UInt8) (w : World) (hx : LX w h g A n c p) (hb : Byt w B A n c zs) (hn : n ≤ 1000000) :
    Calls Try.prog 35 #[.pointer (some ⟨g, 0, none⟩), .string ⟨#[s]⟩] w fun e w' => e = .returned (.bool (decide (peekZ zs (p : Int) = (s.toNat : Int)))) ∧ LX w' h g A n c (p + if peekZ zs (p : Int) = (s.toNat : Int) then 1 else 0) ∧ Only g w w' := by
  have hpl := hx.pl
  refine (match1 g n c p B A zs s w hx.cu hb hx.pl hn _ rfl).mono ?_
  rintro r w' ⟨rfl, hc, ho⟩
  rw [st1_peek zs p s hb.rng] at hc ⊢
  by_cases he : peekZ zs (p : Int) = (s.toNat : Int)
  · have := peekZ_lt zs p (by omega)
    rw [hb.len] at this
    rw [decide_eq_true he, if_pos rfl] at hc
    rw [if_pos he]
    exact ⟨rfl, hx.moved hc ho (by omega), ho⟩
  · rw [decide_eq_false he] at hc
    rw [if_neg he]
    exact ⟨rfl, hx.moved hc ho (by omega), ho⟩

/-- A token's box (the second one) with a row of the call's own. -/
structure NS (w wr : World) (h g : Nat) (A : Option Addr) (n c q : Nat) (k : Int) (v : Value) (out : List Int) : Prop where
  lx : LX wr h g A n c q
  ol : Only g w wr
  b0 : Bx wr w.heap.size 28 (.int .i64 0) (.int .i64 0) (.int .i64 0) (.slice none 0 0)
  b1 : Bx wr (w.heap.size + 1) 28 (.int .i64 k) (.int .i64 0) (.int .i64 0) v
  row : Mine wr (w.heap.size + 2) v out.length out
  lh : h < w.heap.size
  lg : g < w.heap.size
section
variable {w wr w' : World} {h g n c q q' : Nat} {A : Option Addr} {k : Int} {v : Value} {out : List Int}
theorem NS.drewN (x : NS w wr h g A n c q k v out) (j : Nat) : NS w (wr.drewN j) h g A n c q k v out := ⟨x.lx.drewN j, x.ol.drewN j, x.b0, x.b1, x.row.drewN j, x.lh, x.lg⟩
theorem NS.moved (x : NS w wr h g A n c q k v out) (hl : LX w' h g A n c q') (ho : Only g wr w') : NS w w' h g A n c q' k v out :=
  ⟨hl, x.ol.trans ho, x.b0.only ho (by have := x.lg; omega), x.b1.only ho (by have := x.lg; omega), x.row.only ho (by have := x.lg; omega), x.lh, x.lg⟩
theorem NS.size (x : NS w wr h g A n c q k v out) : w.heap.size + 2 ≤ wr.heap.size := x.b1.lt
theorem NS.byt (x : NS w wr h g A n c q k v out) : ∃ A' c', v = .slice A' out.length c' ∧ Byt wr wr.heap.size A' out.length c' out ∧ From (w.heap.size + 2) A' out.length := by
  obtain ⟨A', c', e, hy⟩ := x.row.byt
  subst e
  exact ⟨A', c', rfl, hy, x.row.from_⟩
/-- One byte more, put back. -/
theorem NS.room (x : NS w wr h g A n c q k v out) (z : Int) (hz : 0 ≤ z ∧ z < 256) (hm : out.length ≤ 100000000) :
    ∃ v' w', (Builtin.append_ #[25, 25] 25 #[v, .slice (some ⟨wr.heap.size, 0, none⟩) 1 1]).run Try.prog (wr.alloc (.cells #[.int .u8 z] 5)) = .ok v' w' ∧
      NS w (w'.setCell ⟨w.heap.size + 1, 3, none⟩ v') h g A n c q k v' (out ++ [z]) ∧ w'.frozen? ⟨w.heap.size + 1, 3, none⟩ = false ∧ w'.cell? ⟨w.heap.size + 1, 3, none⟩ = some v ∧ ∃ A c, v' = .slice A (out.length + 1) c := by
  have hsz := x.size
  have hal := (Below.refl wr.heap.size wr).alloc (Nat.le_refl _) (.cells #[.int .u8 z] 5)
  obtain ⟨v6, w6, hrun, hmi6, hbe6, hbl6, hsz6, hwn6⟩ := (x.row.kept hal).appendT (byt_lit0 wr z hz) 25 (by omega) (Nat.le_trans hsz hal.size)
  obtain ⟨A6, c6, hv6, _⟩ := hmi6.byt
  have hkeep : ∀ b, b < w.heap.size + 2 → w6.heap[b]? = wr.heap[b]? := fun b hb =>
    (hbl6 b (by have := hal.size; omega) (fun e => by have := x.row.owned b e; omega)).trans (hal.block b (by omega))
  have hg := x.lg
  have hh := x.lh
  have hb1 : Bx w6 (w.heap.size + 1) 28 (.int .i64 k) (.int .i64 0) (.int .i64 0) v := x.b1.keep (hkeep _ (by omega))
  have hne : ∀ b, v6.ownBlock = some b → b ≠ w.heap.size + 1 := fun b hb => by have := hmi6.owned b hb; omega
  refine ⟨v6, w6, hrun, ⟨?_, ?_, ?_, hb1.set3_ v6, ?_, hh, hg⟩, hb1.fr 3, hb1.c3, A6, c6, hv6⟩
  · exact (x.lx.keep2 (hkeep _ (by omega)) (hkeep _ (by omega))).setC (by omega) (by omega) 3 v6
  · refine Only.setN ?_ (by omega) 3 v6
    exact ⟨hbe6.os.trans (hal.os.trans x.ol.os), hbe6.tape.trans (hal.tape.trans x.ol.tape), hbe6.output.trans (hal.output.trans x.ol.output), by have := hal.size; omega, fun b hb hne => (hkeep b (by omega)).trans (x.ol.block b hb hne)⟩
  · exact (x.b0.keep (hkeep _ (by omega))).keep (Below.heap_setCell w6 ⟨w.heap.size + 1, 3, none⟩ v6 _ (by show w.heap.size ≠ w.heap.size + 1; omega))
  · rw [List.length_append]
    exact hmi6.same6 fun b hb _ => Below.heap_setCell w6 ⟨w.heap.size + 1, 3, none⟩ v6 b (hne b hb)
end

/-- What 'named' answers, and where it stands then. -/
def nmR (zs : List Int) (n p : Nat) : Int × Nat :=
  if peekZ zs (p : Int) = 35 then
    (if dgZ (peekZ zs ((nxP n p : Nat) : Int)) < 0 then (-1, nxP n (nxP n (nxP n p))) else if dgZ (peekZ zs ((nxP n (nxP n p) : Nat) : Int)) < 0 then (-1, nxP n (nxP n (nxP n p))) else (dgZ (peekZ zs ((nxP n p : Nat) : Int)) * 16 + dgZ (peekZ zs ((nxP n (nxP n p) : Nat) : Int)), nxP n (nxP n (nxP n p))))
  else (peekZ zs (p : Int), nxP n p)
set_option maxHeartbeats 1000000 in
theorem pnamedC (h g n c p B : Nat) (A : Option Addr) (zs : List Int) (w : World) (hx : LX w h g A n c p) (hb : Byt w B A n c zs) (hB : B ≤ g) (hn : n ≤ 1000000) :
    Calls Try.prog 61 #[.pointer (some ⟨h, 0, none⟩)] w fun e w' => e = .returned (.int .i64 (nmR zs n p).1) ∧ LX w' h g A n c (nmR zs n p).2 ∧ Only g w w' := by
  have HX := Lib.hid hx
  have HB := Lib.hid hb
  have HGW := Lib.hid (Nat.le_of_lt hx.cu.lt)
  have HNX := Lib.hid (fun W q (hW : LX W h g A n c q) (ho : Only g w W) => lxnext h g n c q B A zs W hW (HB.out.only ho hB HGW.out) hn)
  have H1 := Lib.hid (HNX.out w p HX.out (Only.refl _ _))
  have H2 := Lib.hid (fun W (hW : LX W h g A n c (nxP n p)) ho => HNX.out W (nxP n p) hW ho)
  have H3 := Lib.hid (fun W (hW : LX W h g A n c (nxP n (nxP n p))) ho => HNX.out W (nxP n (nxP n p)) hW ho)
  have k0 := hx.k0
  unfold nmR
  obtain ⟨x1, h1⟩ : ∃ x, peekZ zs (p : Int) = x := ⟨_, rfl⟩
  obtain ⟨x2, h2⟩ : ∃ x, peekZ zs ((nxP n p : Nat) : Int) = x := ⟨_, rfl⟩
  obtain ⟨x3, h3⟩ : ∃ x, peekZ zs ((nxP n (nxP n p) : Nat) : Int) = x := ⟨_, rfl⟩
  rw [h1] at H1 ⊢
  rw [h2] at H2 ⊢
  rw [h3] at H3 ⊢
  have HD2 := Lib.hid (fun W => pdigit x2 W)
  have HD3 := Lib.hid (fun W => pdigit x3 W)
  have hd2 := dgZ_bd x2
  have hd3 := dgZ_bd x3
  obtain ⟨d2, e2⟩ : ∃ x, dgZ x2 = x := ⟨_, rfl⟩
  obtain ⟨d3, e3⟩ : ∃ x, dgZ x3 = x := ⟨_, rfl⟩
  rw [e2] at hd2 HD2 ⊢
  rw [e3] at hd3 HD3 ⊢
  have HE := Lib.hid (show (∀ z : Int, z = 35 → x1 = 35 → True) from fun _ _ _ => trivial)
  clear hx hb h1 h2 h3 e2 e3
  by_cases hc : x1 = 35
  · rw [if_pos hc]
    subst hc
    obtain ⟨a0, a1⟩ := hd2
    obtain ⟨b0, b1⟩ := hd3
    by_cases g2 : d2 < 0
    · rw [if_pos g2]
      go_enter Try.func61, Try.ntmps61
      go_wp2_with (first
        | (go_at_call 62; (with_reducible refine H1.out.mono ?_); (rintro e w1 ⟨rfl, hx1, ho1⟩); have HX1 := Lib.hid hx1; have HO1 := Lib.hid ho1; have k0 := hx1.k0; clear hx1 ho1)
        | (go_at_call 62; (with_reducible refine (H2.out w1 HX1.out HO1.out).mono ?_); (rintro e w2 ⟨rfl, hx2, ho2⟩); have HX2 := Lib.hid hx2; have HO2 := Lib.hid (HO1.out.trans ho2); have k0 := hx2.k0; clear hx2 ho2)
        | (go_at_call 77; (with_reducible refine (HD2.out _).mono ?_); (rintro e w4 ⟨rfl, rfl⟩))
        | (go_at_call 62; (with_reducible refine (H3.out w2 HX2.out HO2.out).mono ?_); (rintro e w3 ⟨rfl, hx3, ho3⟩); have HX3 := Lib.hid hx3; have HO3 := Lib.hid (HO2.out.trans ho3); have k0 := hx3.k0; clear hx3 ho3)
        | (go_at_call 77; (with_reducible refine (HD3.out _).mono ?_); (rintro e w5 ⟨rfl, rfl⟩)))
      go_ret
      exact ⟨rfl, HX3.out, HO3.out⟩
    · rw [if_neg g2]
      have g2' : decide (d2 < 0) = false := decide_eq_false g2
      have hor := fun h => or_nib d2 d3 (by omega) a1 h b1
      have HOR := Lib.hid hor
      have es : d2 * 16 = d2 * 16 := rfl
      have ws : IntKind.i64.wrap (d2 * 16) = d2 * 16 := IntWalk.i64_in _ (by omega)
      clear hor es
      by_cases g3 : d3 < 0
      · rw [if_pos g3]
        go_enter Try.func61, Try.ntmps61
        go_wp2_with (first
          | (go_at_call 62; (with_reducible refine H1.out.mono ?_); (rintro e w1 ⟨rfl, hx1, ho1⟩); have HX1 := Lib.hid hx1; have HO1 := Lib.hid ho1; have k0 := hx1.k0; clear hx1 ho1)
          | (go_at_call 62; (with_reducible refine (H2.out w1 HX1.out HO1.out).mono ?_); (rintro e w2 ⟨rfl, hx2, ho2⟩); have HX2 := Lib.hid hx2; have HO2 := Lib.hid (HO1.out.trans ho2); have k0 := hx2.k0; clear hx2 ho2)
          | (go_at_call 77; (with_reducible refine (HD2.out _).mono ?_); (rintro e w4 ⟨rfl, rfl⟩))
          | (go_at_call 62; (with_reducible refine (H3.out w2 HX2.out HO2.out).mono ?_); (rintro e w3 ⟨rfl, hx3, ho3⟩); have HX3 := Lib.hid hx3; have HO3 := Lib.hid (HO2.out.trans ho3); have k0 := hx3.k0; clear hx3 ho3)
          | (go_at_call 77; (with_reducible refine (HD3.out _).mono ?_); (rintro e w5 ⟨rfl, rfl⟩)))
        go_ret
        exact ⟨rfl, HX3.out, HO3.out⟩
      · rw [if_neg g3]
        have g3' : decide (d3 < 0) = false := decide_eq_false g3
        have hor := HOR.out (by omega)
        go_enter Try.func61, Try.ntmps61
        go_wp2_with (first
          | (go_at_call 62; (with_reducible refine H1.out.mono ?_); (rintro e w1 ⟨rfl, hx1, ho1⟩); have HX1 := Lib.hid hx1; have HO1 := Lib.hid ho1; have k0 := hx1.k0; clear hx1 ho1)
          | (go_at_call 62; (with_reducible refine (H2.out w1 HX1.out HO1.out).mono ?_); (rintro e w2 ⟨rfl, hx2, ho2⟩); have HX2 := Lib.hid hx2; have HO2 := Lib.hid (HO1.out.trans ho2); have k0 := hx2.k0; clear hx2 ho2)
          | (go_at_call 77; (with_reducible refine (HD2.out _).mono ?_); (rintro e w4 ⟨rfl, rfl⟩))
          | (go_at_call 62; (with_reducible refine (H3.out w2 HX2.out HO2.out).mono ?_); (rintro e w3 ⟨rfl, hx3, ho3⟩); have HX3 := Lib.hid hx3; have HO3 := Lib.hid (HO2.out.trans ho3); have k0 := hx3.k0; clear hx3 ho3)
          | (go_at_call 77; (with_reducible refine (HD3.out _).mono ?_); (rintro e w5 ⟨rfl, rfl⟩)))
        go_ret
        exact ⟨ret_int (by first | rfl | omega), HX3.out, HO3.out⟩
  · rw [if_neg hc]
    go_enter Try.func61, Try.ntmps61
    go_wp2_with (first
      | (go_at_call 62; (with_reducible refine H1.out.mono ?_); (rintro e w1 ⟨rfl, hx1, ho1⟩); have HX1 := Lib.hid hx1; have HO1 := Lib.hid ho1; have k0 := hx1.k0; clear hx1 ho1))
    go_ret
    exact ⟨rfl, HX1.out, HO1.out⟩
end Go.Proofs.Ytojbhckgegoldaa
