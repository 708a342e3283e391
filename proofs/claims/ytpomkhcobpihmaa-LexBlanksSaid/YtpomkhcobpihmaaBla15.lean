/- Contracts of functions that the law calls, and what they lean on (a part). -/
import Derived.Laws.ResultCell
import Derived.Test.YtpomkhcobpihmaaBla12
import Derived.Test.YtpomkhcobpihmaaBla13
import Derived.Test.YtpomkhcobpihmaaBla14
namespace Go.Proofs.Ytpomkhcobpihmaa
section
open Go.RowKit
set_option linter.unusedVariables false
set_option maxRecDepth 100000
theorem results_cell_row_tmp {P : Program} {fn : Func} {p u : Tmp} {ty : TypeId} (h : fn.results = #[.cell p ty, .tmp u]) (tmps : Array Value) (w : World) (g : Nat) (t : TypeId) (cs : Array Value) (fr : Nat × Nat) (d : TypeDesc)
    (hp : tmps.getD p undef = .pointer (some ⟨g, 0, none⟩)) (hg : w.heap[g]? = some (.cells cs t fr))
    (hu : P.underlying ty = some d) (hd : (match d with | .struct _ | .array _ _ => true | _ => false) = true) (hi : (P.info? ty).map (·.size) = some cs.size) (x : Value) (hx : tmps.getD u undef = x) :
    (results fn tmps).run P w = .ok (.tuple #[.agg cs, x]) w := by
  rw [results_cell_tmp h, hp]
  simp [asAddr, run_loadVar_row w g t ty cs fr d hg hu hd hi, Result.andThen]
  simpa using hx
abbrev tkA (k a v : Int) (A : Option Addr) (m c : Nat) : Value := .agg #[.int .i64 k, .int .i64 a, .int .i64 v, .slice A m c]
abbrev tkC (k a v : Int) (A : Option Addr) (m c : Nat) : Array Value := #[.int .i64 k, .int .i64 a, .int .i64 v, .slice A m c]
/-- A box of four cells. -/
def Bx (W : World) (g : Nat) (T : TypeId) (x0 x1 x2 x3 : Value) : Prop := W.heap[g]? = some (.cells #[x0, x1, x2, x3] T (0, 0))
section
variable {W W' w : World} {g b i : Nat} {T : TypeId} {x0 x1 x2 x3 y0 y1 y2 y3 : Value}
theorem Bx.new (w : World) (T : TypeId) (x0 x1 x2 x3 : Value) : Bx (w.alloc (.cells #[x0, x1, x2, x3] T)) w.heap.size T x0 x1 x2 x3 := heap_alloc_new w _
theorem Bx.c0 (h : Bx W g T x0 x1 x2 x3) : W.cell? ⟨g, 0, none⟩ = some x0 := by rw [cell_of_row W g 0 _ T (0, 0) h]; rfl
theorem Bx.c1 (h : Bx W g T x0 x1 x2 x3) : W.cell? ⟨g, 1, none⟩ = some x1 := by rw [cell_of_row W g 1 _ T (0, 0) h]; rfl
theorem Bx.c2 (h : Bx W g T x0 x1 x2 x3) : W.cell? ⟨g, 2, none⟩ = some x2 := by rw [cell_of_row W g 2 _ T (0, 0) h]; rfl
theorem Bx.c3 (h : Bx W g T x0 x1 x2 x3) : W.cell? ⟨g, 3, none⟩ = some x3 := by rw [cell_of_row W g 3 _ T (0, 0) h]; rfl
theorem Bx.fr (h : Bx W g T x0 x1 x2 x3) (i : Nat) : W.frozen? ⟨g, i, none⟩ = false := by
  unfold Bx at h
  simp [World.frozen?, h]
theorem Bx.lt (h : Bx W g T x0 x1 x2 x3) : g < W.heap.size := row_lt W g _ h
theorem Bx.keep (h : Bx W g T x0 x1 x2 x3) (e : W'.heap[g]? = W.heap[g]?) : Bx W' g T x0 x1 x2 x3 := e.trans h
theorem Bx.drewN (h : Bx W g T x0 x1 x2 x3) (k : Nat) : Bx (W.drewN k) g T x0 x1 x2 x3 := h
theorem Bx.below {B : Nat} (h : Bx W g T x0 x1 x2 x3) (hb : Below B W W') (hg : g < B) : Bx W' g T x0 x1 x2 x3 := (hb.block g hg).trans h
theorem Bx.only (h : Bx W g T x0 x1 x2 x3) (ho : Only b W W') (hg : g ≠ b) : Bx W' g T x0 x1 x2 x3 := (ho.block g h.lt hg).trans h
/-- The four cells, written. -/
abbrev set4 (W : World) (g : Nat) (x0 x1 x2 x3 : Value) : World := (((W.setCell ⟨g, 0, none⟩ x0).setCell ⟨g, 1, none⟩ x1).setCell ⟨g, 2, none⟩ x2).setCell ⟨g, 3, none⟩ x3
theorem Bx.set4_ (h : Bx W g T x0 x1 x2 x3) : Bx (set4 W g y0 y1 y2 y3) g T y0 y1 y2 y3 := by
  have h1 := heap_set W g 0 y0 [x0, x1, x2, x3] _ h
  have h2 := heap_set _ g 1 y1 _ _ h1
  have h3 := heap_set _ g 2 y2 _ _ h2
  exact heap_set _ g 3 y3 _ _ h3
theorem Bx.set1_ (h : Bx W g T x0 x1 x2 x3) (y : Value) : Bx (W.setCell ⟨g, 1, none⟩ y) g T x0 y x2 x3 := heap_set W g 1 y [x0, x1, x2, x3] _ h
theorem Bx.set3_ (h : Bx W g T x0 x1 x2 x3) (y : Value) : Bx (W.setCell ⟨g, 3, none⟩ y) g T x0 x1 x2 y := heap_set W g 3 y [x0, x1, x2, x3] _ h
theorem heap_set4 (hb : b ≠ g) : (set4 W g y0 y1 y2 y3).heap[b]? = W.heap[b]? :=
  (Below.heap_setCell _ ⟨g, 3, none⟩ y3 b hb).trans ((Below.heap_setCell _ ⟨g, 2, none⟩ y2 b hb).trans ((Below.heap_setCell _ ⟨g, 1, none⟩ y1 b hb).trans (Below.heap_setCell _ ⟨g, 0, none⟩ y0 b hb)))
theorem size_set4 : (set4 W g y0 y1 y2 y3).heap.size = W.heap.size := by simp [set4, World.setCell]
/-- A cell in memory made since. -/
theorem Only.setN (h : Only b w W) (hb : w.heap.size ≤ g) (i : Nat) (u : Value) : Only b w (W.setCell ⟨g, i, none⟩ u) :=
  ⟨h.os, h.tape, h.output, by simpa [World.setCell] using h.size, fun k hk hne => (Below.heap_setCell W ⟨g, i, none⟩ u k (by show k ≠ g; omega)).trans (h.block k hk hne)⟩
theorem Only.set4_ (h : Only b w W) (hb : w.heap.size ≤ g) : Only b w (set4 W g y0 y1 y2 y3) := (((h.setN hb 0 y0).setN hb 1 y1).setN hb 2 y2).setN hb 3 y3
theorem LX.keep2 {h g' n c p : Nat} {A : Option Addr} (x : LX W h g' A n c p) (e1 : W'.heap[h]? = W.heap[h]?) (e2 : W'.heap[g']? = W.heap[g']?) : LX W' h g' A n c p := ⟨e1.trans x.lx, e2.trans x.cu, x.ne, x.pl⟩
theorem LX.set4_ {h g' n c p : Nat} {A : Option Addr} (x : LX W h g' A n c p) (h1 : h ≠ g) (h2 : g' ≠ g) : LX (set4 W g y0 y1 y2 y3) h g' A n c p := x.keep2 (heap_set4 h1) (heap_set4 h2)
theorem LX.setC {h g' n c p : Nat} {A : Option Addr} (x : LX W h g' A n c p) (h1 : h ≠ g) (h2 : g' ≠ g) (i : Nat) (u : Value) : LX (W.setCell ⟨g, i, none⟩ u) h g' A n c p := x.keep2 (Below.heap_setCell _ ⟨g, i, none⟩ u h h1) (Below.heap_setCell _ ⟨g, i, none⟩ u g' h2)
theorem Byt.set4_ {B F n c : Nat} {A : Option Addr} {zs : List Int} (h : Byt W B A n c zs) (hf : From F A n) (hg : g < F) : Byt (set4 W g y0 y1 y2 y3) B A n c zs :=
  ⟨h.len, h.cap, h.rng, fun hn => by
    obtain ⟨b, o, e, hlt, hc⟩ := h.cell hn
    have hb := hf hn b o e
    exact ⟨b, o, e, hlt, fun j hj => (World.cell?_of_block (a := ⟨b, o + j, none⟩) (heap_set4 (show b ≠ g by omega))).trans (hc j hj)⟩⟩
end
/-- What a reader of one kind of tokens leaves. -/
def TkP (h g : Nat) (A : Option Addr) (n c : Nat) (t : Tk) (w : World) (r : Ending) (w' : World) : Prop :=
  ∃ (k a v : Int) (A' : Option Addr) (m c' q : Nat), r = .returned (.tuple #[tkA k a v A' m c', .int .i64 t.e]) ∧ LX w' h g A n c q ∧ Only g w w' ∧ (t.e = 0 → k = t.k ∧ v = t.v ∧ q = t.q ∧ Byt w' w'.heap.size A' m c' t.b ∧ From w.heap.size A' m)
end

section
open Go.RowKit
set_option linter.unusedVariables false
set_option maxRecDepth 100000
/-- Where one stands behind a sign. -/
def nxP (n p : Nat) : Nat := if p < n then p + 1 else p
theorem nxP_le {n p : Nat} (h : p ≤ n) : nxP n p ≤ n := by unfold nxP; split <;> omega
theorem nxP_in {n p : Nat} (h : p < n) : nxP n p = p + 1 := by unfold nxP; rw [if_pos h]
theorem peekZ_end (zs : List Int) (n p : Nat) (hl : zs.length = n) (h : ¬ p < n) : peekZ zs (p : Int) = -1 := peekZ_nat zs p (by omega)
theorem lxnext (h g n c p B : Nat) (A : Option Addr) (zs : List Int) (w : World) (hx : LX w h g A n c p) (hb : Byt w B A n c zs) (hn : n ≤ 1000000) :
    Calls Try.prog 113 #[.pointer (some ⟨g, 0, none⟩)] w fun e w' => e = .returned (.int .i64 (peekZ zs (p : Int))) ∧ LX w' h g A n c (nxP n p) ∧ Only g w w' := by
  have hpl := hx.pl
  by_cases hlt : p < n
  · refine (next_in g n c p B A zs w hx.cu hb hlt hn).mono ?_
    rintro r w' ⟨rfl, hc, ho⟩
    rw [nxP_in hlt]
    exact ⟨rfl, hx.moved hc ho (by omega), ho⟩
  · obtain rfl : p = n := by omega
    refine (next_out g p c A zs w hx.cu hb.len hn).mono ?_
    rintro r w' ⟨rfl, rfl⟩
    rw [peekZ_end zs p p hb.len hlt, nxP, if_neg hlt]
    exact ⟨rfl, hx, Only.refl _ _⟩
theorem st1_peek (zs : List Int) (p : Nat) (s : UInt8) (hr : ∀ z ∈ zs, 0 ≤ z ∧ z < 256) : stB zs p ⟨#[s]⟩ = decide (peekZ zs (p : Int) = (s.toNat : Int)) := by
  rcases Nat.lt_or_ge p zs.length with hq | hq
  · rw [stB_one zs p s hr hq, peekZ_in zs p hq]
  · rw [stB_end zs p s hq, peekZ_nat zs p hq, decide_eq_false (by omega)]
theorem lxmatch (h g n c p B : Nat) (A : Option Addr) (zs : List Int) (s : UInt8) (w : World) (hx : LX w h g A n c p) (hb : Byt w B A n c zs) (hn : n ≤ 1000000) :
    Calls Try.prog 93 #[.pointer (some ⟨g, 0, none⟩), .string ⟨#[s]⟩] w fun e w' => e = .returned (.bool (decide (peekZ zs (p : Int) = (s.toNat : Int)))) ∧ LX w' h g A n c (p + if peekZ zs (p : Int) = (s.toNat : Int) then 1 else 0) ∧ Only g w w' := by
  have hpl := hx.pl
  refine (match1 g n c p B A zs s w hx.cu hb hx.pl hn _ rfl).mono ?_
  rintro r w' ⟨rfl, hc, ho⟩
  rw [st1_peek zs p s hb.rng] at hc ⊢
  by_cases he : peekZ zs (p : Int) = (s.toNat : Int)
  · have := peekZ_lt zs p (by omega)
    rw [hb.len] at this
    rw [decide_eq_true he, if_pos rfl] at hc
    rw [if_pos he]
    exact ⟨rfl, hx.moved hc ho (by omega), ho⟩
  · rw [decide_eq_false he] at hc
    rw [if_neg he]
    exact ⟨rfl, hx.moved hc ho (by omega), ho⟩
/-- A token's box (the second one) with a row of the call's own. -/
structure NS (w wr : World) (h g : Nat) (A : Option Addr) (n c q : Nat) (k : Int) (v : Value) (out : List Int) : Prop where
  lx : LX wr h g A n c q
  ol : Only g w wr
  b0 : Bx wr w.heap.size 56 (.int .i64 0) (.int .i64 0) (.int .i64 0) (.slice none 0 0)
  b1 : Bx wr (w.heap.size + 1) 56 (.int .i64 k) (.int .i64 0) (.int .i64 0) v
  row : Mine wr (w.heap.size + 2) v out.length out
  lh : h < w.heap.size
  lg : g < w.heap.size
section
variable {w wr w' : World} {h g n c q q' : Nat} {A : Option Addr} {k : Int} {v : Value} {out : List Int}
theorem NS.drewN (x : NS w wr h g A n c q k v out) (j : Nat) : NS w (wr.drewN j) h g A n c q k v out := ⟨x.lx.drewN j, x.ol.drewN j, x.b0, x.b1, x.row.drewN j, x.lh, x.lg⟩
theorem NS.moved (x : NS w wr h g A n c q k v out) (hl : LX w' h g A n c q') (ho : Only g wr w') : NS w w' h g A n c q' k v out :=
  ⟨hl, x.ol.trans ho, x.b0.only ho (by have := x.lg; omega), x.b1.only ho (by have := x.lg; omega), x.row.only ho (by have := x.lg; omega), x.lh, x.lg⟩
theorem NS.size (x : NS w wr h g A n c q k v out) : w.heap.size + 2 ≤ wr.heap.size := x.b1.lt
theorem NS.byt (x : NS w wr h g A n c q k v out) : ∃ A' c', v = .slice A' out.length c' ∧ Byt wr wr.heap.size A' out.length c' out ∧ From (w.heap.size + 2) A' out.length := by
  obtain ⟨A', c', e, hy⟩ := x.row.byt
  subst e
  exact ⟨A', c', rfl, hy, x.row.from_⟩
/-- One byte more, put back. -/
theorem NS.room (x : NS w wr h g A n c q k v out) (z : Int) (hz : 0 ≤ z ∧ z < 256) (hm : out.length ≤ 100000000) :
    ∃ v' w', (Builtin.append_ #[23, 23] 23 #[v, .slice (some ⟨wr.heap.size, 0, none⟩) 1 1]).run Try.prog (wr.alloc (.cells #[.int .u8 z] 5)) = .ok v' w' ∧
      NS w (w'.setCell ⟨w.heap.size + 1, 3, none⟩ v') h g A n c q k v' (out ++ [z]) ∧ w'.frozen? ⟨w.heap.size + 1, 3, none⟩ = false ∧ w'.cell? ⟨w.heap.size + 1, 3, none⟩ = some v ∧ ∃ A c, v' = .slice A (out.length + 1) c := by
  have hsz := x.size
  have hal := (Below.refl wr.heap.size wr).alloc (Nat.le_refl _) (.cells #[.int .u8 z] 5)
  obtain ⟨v6, w6, hrun, hmi6, hbe6, hbl6, hsz6, hwn6⟩ := (x.row.kept hal).appendT (byt_lit0 wr z hz) 23 (by omega) (Nat.le_trans hsz hal.size)
  obtain ⟨A6, c6, hv6, _⟩ := hmi6.byt
  have hkeep : ∀ b, b < w.heap.size + 2 → w6.heap[b]? = wr.heap[b]? := fun b hb =>
    (hbl6 b (by have := hal.size; omega) (fun e => by have := x.row.owned b e; omega)).trans (hal.block b (by omega))
  have hg := x.lg
  have hh := x.lh
  have hb1 : Bx w6 (w.heap.size + 1) 56 (.int .i64 k) (.int .i64 0) (.int .i64 0) v := x.b1.keep (hkeep _ (by omega))
  have hne : ∀ b, v6.ownBlock = some b → b ≠ w.heap.size + 1 := fun b hb => by have := hmi6.owned b hb; omega
  refine ⟨v6, w6, hrun, ⟨?_, ?_, ?_, hb1.set3_ v6, ?_, hh, hg⟩, hb1.fr 3, hb1.c3, A6, c6, hv6⟩
  · exact (x.lx.keep2 (hkeep _ (by omega)) (hkeep _ (by omega))).setC (by omega) (by omega) 3 v6
  · refine Only.setN ?_ (by omega) 3 v6
    exact ⟨hbe6.os.trans (hal.os.trans x.ol.os), hbe6.tape.trans (hal.tape.trans x.ol.tape), hbe6.output.trans (hal.output.trans x.ol.output), by have := hal.size; omega, fun b hb hne => (hkeep b (by omega)).trans (x.ol.block b hb hne)⟩
  · exact (x.b0.keep (hkeep _ (by omega))).keep (Below.heap_setCell w6 ⟨w.heap.size + 1, 3, none⟩ v6 _ (by show w.heap.size ≠ w.heap.size + 1; omega))
  · rw [List.length_append]
    exact hmi6.same6 fun b hb _ => Below.heap_setCell w6 ⟨w.heap.size + 1, 3, none⟩ v6 b (hne b hb)
end
/-- What 'named' answers, and where it stands then. -/
def nmR (zs : List Int) (n p : Nat) : Int × Nat :=
  if peekZ zs (p : Int) = 35 then
    (if dgZ (peekZ zs ((nxP n p : Nat) : Int)) < 0 then (-1, nxP n (nxP n (nxP n p))) else if dgZ (peekZ zs ((nxP n (nxP n p) : Nat) : Int)) < 0 then (-1, nxP n (nxP n (nxP n p))) else (dgZ (peekZ zs ((nxP n p : Nat) : Int)) * 16 + dgZ (peekZ zs ((nxP n (nxP n p) : Nat) : Int)), nxP n (nxP n (nxP n p))))
  else (peekZ zs (p : Int), nxP n p)
set_option maxHeartbeats 1000000 in
theorem pnamedC (h g n c p B : Nat) (A : Option Addr) (zs : List Int) (w : World) (hx : LX w h g A n c p) (hb : Byt w B A n c zs) (hB : B ≤ g) (hn : n ≤ 1000000) :
    Calls Try.prog 112 #[.pointer (some ⟨h, 0, none⟩)] w fun e w' => e = .returned (.int .i64 (nmR zs n p).1) ∧ LX w' h g A n c (nmR zs n p).2 ∧ Only g w w' := by
  have HX := Lib.hid hx
  have HB := Lib.hid hb
  have HGW := Lib.hid (Nat.le_of_lt hx.cu.lt)
  have HNX := Lib.hid (fun W q (hW : LX W h g A n c q) (ho : Only g w W) => lxnext h g n c q B A zs W hW (HB.out.only ho hB HGW.out) hn)
  have H1 := Lib.hid (HNX.out w p HX.out (Only.refl _ _))
  have H2 := Lib.hid (fun W (hW : LX W h g A n c (nxP n p)) ho => HNX.out W (nxP n p) hW ho)
  have H3 := Lib.hid (fun W (hW : LX W h g A n c (nxP n (nxP n p))) ho => HNX.out W (nxP n (nxP n p)) hW ho)
  have k0 := hx.k0
  unfold nmR
  obtain ⟨x1, h1⟩ : ∃ x, peekZ zs (p : Int) = x := ⟨_, rfl⟩
  obtain ⟨x2, h2⟩ : ∃ x, peekZ zs ((nxP n p : Nat) : Int) = x := ⟨_, rfl⟩
  obtain ⟨x3, h3⟩ : ∃ x, peekZ zs ((nxP n (nxP n p) : Nat) : Int) = x := ⟨_, rfl⟩
  rw [h1] at H1 ⊢
  rw [h2] at H2 ⊢
  rw [h3] at H3 ⊢
  have HD2 := Lib.hid (fun W => pdigit x2 W)
  have HD3 := Lib.hid (fun W => pdigit x3 W)
  have hd2 := dgZ_bd x2
  have hd3 := dgZ_bd x3
  obtain ⟨d2, e2⟩ : ∃ x, dgZ x2 = x := ⟨_, rfl⟩
  obtain ⟨d3, e3⟩ : ∃ x, dgZ x3 = x := ⟨_, rfl⟩
  rw [e2] at hd2 HD2 ⊢
  rw [e3] at hd3 HD3 ⊢
  have HE := Lib.hid (show (∀ z : Int, z = 35 → x1 = 35 → True) from fun _ _ _ => trivial)
  clear hx hb h1 h2 h3 e2 e3
  by_cases hc : x1 = 35
  · rw [if_pos hc]
    subst hc
    obtain ⟨a0, a1⟩ := hd2
    obtain ⟨b0, b1⟩ := hd3
    by_cases g2 : d2 < 0
    · rw [if_pos g2]
      go_enter Try.func112, Try.ntmps112
      go_wp2_with (first
        | (go_at_call 113; (with_reducible refine H1.out.mono ?_); (rintro e w1 ⟨rfl, hx1, ho1⟩); have HX1 := Lib.hid hx1; have HO1 := Lib.hid ho1; have k0 := hx1.k0; clear hx1 ho1)
        | (go_at_call 113; (with_reducible refine (H2.out w1 HX1.out HO1.out).mono ?_); (rintro e w2 ⟨rfl, hx2, ho2⟩); have HX2 := Lib.hid hx2; have HO2 := Lib.hid (HO1.out.trans ho2); have k0 := hx2.k0; clear hx2 ho2)
        | (go_at_call 128; (with_reducible refine (HD2.out _).mono ?_); (rintro e w4 ⟨rfl, rfl⟩))
        | (go_at_call 113; (with_reducible refine (H3.out w2 HX2.out HO2.out).mono ?_); (rintro e w3 ⟨rfl, hx3, ho3⟩); have HX3 := Lib.hid hx3; have HO3 := Lib.hid (HO2.out.trans ho3); have k0 := hx3.k0; clear hx3 ho3)
        | (go_at_call 128; (with_reducible refine (HD3.out _).mono ?_); (rintro e w5 ⟨rfl, rfl⟩)))
      go_ret
      exact ⟨rfl, HX3.out, HO3.out⟩
    · rw [if_neg g2]
      have g2' : decide (d2 < 0) = false := decide_eq_false g2
      have hor := fun h => or_nib d2 d3 (by omega) a1 h b1
      have HOR := Lib.hid hor
      have es : d2 * 16 = d2 * 16 := rfl
      have ws : IntKind.i64.wrap (d2 * 16) = d2 * 16 := IntWalk.i64_in _ (by omega)
      clear hor es
      by_cases g3 : d3 < 0
      · rw [if_pos g3]
        go_enter Try.func112, Try.ntmps112
        go_wp2_with (first
          | (go_at_call 113; (with_reducible refine H1.out.mono ?_); (rintro e w1 ⟨rfl, hx1, ho1⟩); have HX1 := Lib.hid hx1; have HO1 := Lib.hid ho1; have k0 := hx1.k0; clear hx1 ho1)
          | (go_at_call 113; (with_reducible refine (H2.out w1 HX1.out HO1.out).mono ?_); (rintro e w2 ⟨rfl, hx2, ho2⟩); have HX2 := Lib.hid hx2; have HO2 := Lib.hid (HO1.out.trans ho2); have k0 := hx2.k0; clear hx2 ho2)
          | (go_at_call 128; (with_reducible refine (HD2.out _).mono ?_); (rintro e w4 ⟨rfl, rfl⟩))
          | (go_at_call 113; (with_reducible refine (H3.out w2 HX2.out HO2.out).mono ?_); (rintro e w3 ⟨rfl, hx3, ho3⟩); have HX3 := Lib.hid hx3; have HO3 := Lib.hid (HO2.out.trans ho3); have k0 := hx3.k0; clear hx3 ho3)
          | (go_at_call 128; (with_reducible refine (HD3.out _).mono ?_); (rintro e w5 ⟨rfl, rfl⟩)))
        go_ret
        exact ⟨rfl, HX3.out, HO3.out⟩
      · rw [if_neg g3]
        have g3' : decide (d3 < 0) = false := decide_eq_false g3
        have hor := HOR.out (by omega)
        go_enter Try.func112, Try.ntmps112
        go_wp2_with (first
          | (go_at_call 113; (with_reducible refine H1.out.mono ?_); (rintro e w1 ⟨rfl, hx1, ho1⟩); have HX1 := Lib.hid hx1; have HO1 := Lib.hid ho1; have k0 := hx1.k0; clear hx1 ho1)
          | (go_at_call 113; (with_reducible refine (H2.out w1 HX1.out HO1.out).mono ?_); (rintro e w2 ⟨rfl, hx2, ho2⟩); have HX2 := Lib.hid hx2; have HO2 := Lib.hid (HO1.out.trans ho2); have k0 := hx2.k0; clear hx2 ho2)
          | (go_at_call 128; (with_reducible refine (HD2.out _).mono ?_); (rintro e w4 ⟨rfl, rfl⟩))
          | (go_at_call 113; (with_reducible refine (H3.out w2 HX2.out HO2.out).mono ?_); (rintro e w3 ⟨rfl, hx3, ho3⟩); have HX3 := Lib.hid hx3; have HO3 := Lib.hid (HO2.out.trans ho3); have k0 := hx3.k0; clear hx3 ho3)
          | (go_at_call 128; (with_reducible refine (HD3.out _).mono ?_); (rintro e w5 ⟨rfl, rfl⟩)))
        go_ret
        exact ⟨ret_int (by first | rfl | omega), HX3.out, HO3.out⟩
  · rw [if_neg hc]
    go_enter Try.func112, Try.ntmps112
    go_wp2_with (first
      | (go_at_call 113; (with_reducible refine H1.out.mono ?_); (rintro e w1 ⟨rfl, hx1, ho1⟩); have HX1 := Lib.hid hx1; have HO1 := Lib.hid ho1; have k0 := hx1.k0; clear hx1 ho1))
    go_ret
    exact ⟨rfl, HX1.out, HO1.out⟩
end

section
open Go.RowKit
set_option linter.unusedVariables false
set_option maxRecDepth 100000
set_option maxHeartbeats 1000000 in
theorem plineC (h g n c p B : Nat) (A : Option Addr) (zs : List Int) (x : Int) (w : World) (hx : LX w h g A n c p) (hb : Byt w B A n c zs) (hn : n ≤ 1000000) :
    Calls Try.prog 114 #[.pointer (some ⟨h, 0, none⟩), .int .i64 x] w fun e w' => e = .returned (.int .i64 10) ∧ LX w' h g A n c (if x = 13 then (p + if peekZ zs (p : Int) = 10 then 1 else 0) else p) ∧ Only g w w' := by
  have HX := Lib.hid hx
  have hm := lxmatch h g n c p B A zs 10 w hx hb hn
  rw [show ((10 : UInt8).toNat : Int) = 10 from rfl] at hm
  have k0 := hx.k0
  clear hx hb
  by_cases h13 : x = 13
  · rw [if_pos h13]
    subst h13
    obtain ⟨bb, hbb⟩ : ∃ bb, decide (peekZ zs (p : Int) = 10) = bb := ⟨_, rfl⟩
    obtain ⟨qq, hqq⟩ : ∃ qq, (p + if peekZ zs (p : Int) = 10 then 1 else 0) = qq := ⟨_, rfl⟩
    rw [hbb, hqq] at hm
    rw [hqq]
    have HM := Lib.hid hm
    clear hm hbb hqq
    go_enter Try.func114, Try.ntmps114
    go_wp2_with (go_at_call 93; refine HM.out.mono ?_; (rintro e w2 ⟨rfl, hx2, ho2⟩); have HX2 := Lib.hid hx2; have HO2 := Lib.hid ho2; clear hx2 ho2)
    go_ret
    exact ⟨rfl, HX2.out, HO2.out⟩
  · rw [if_neg h13]
    clear hm
    go_enter Try.func114, Try.ntmps114
    go_wp2_with fail
    go_ret
    exact ⟨rfl, HX.out, Only.refl _ _⟩
/-- Digits of base 8 behind the first one. -/
def octR (zs : List Int) (p : Nat) (n0 : Int) : Int × Nat :=
  if octB (peekZ zs (p : Int)) = true then
    (if octB (peekZ zs ((p + 1 : Nat) : Int)) = true then ((((n0 * 8 + (peekZ zs (p : Int) - 48)) * 8 + (peekZ zs ((p + 1 : Nat) : Int) - 48)) % 256, p + 2)) else ((n0 * 8 + (peekZ zs (p : Int) - 48)) % 256, p + 1))
  else (n0 % 256, p)
theorem oct_in (x : Int) (h : octB x = true) : 48 ≤ x ∧ x ≤ 55 := by unfold octB at h; simpa using h
theorem oct_out (x : Int) (h : octB x = false) : x < 48 ∨ 55 < x := by unfold octB at h; simp at h; omega
set_option maxHeartbeats 2000000 in
theorem poctalC (h g n c p B : Nat) (A : Option Addr) (zs : List Int) (n0 : Int) (w : World) (hx : LX w h g A n c p) (hb : Byt w B A n c zs) (hB : B ≤ g) (hn : n ≤ 1000000) (h0 : 0 ≤ n0) (h7 : n0 ≤ 7) :
    Calls Try.prog 129 #[.pointer (some ⟨h, 0, none⟩), .int .i64 n0] w fun e w' => e = .returned (.int .i64 (octR zs p n0).1) ∧ LX w' h g A n c (octR zs p n0).2 ∧ Only g w w' := by
  have HX := Lib.hid hx
  have HB := Lib.hid hb
  have HGW := Lib.hid (Nat.le_of_lt hx.cu.lt)
  have HPK := Lib.hid (fun W q (hW : LX W h g A n c q) (ho : Only g w W) => peek_any g n c q B A zs 0 W hW.cu (HB.out.only ho hB HGW.out) hW.pl hn)
  have HNX := Lib.hid (fun W q (hW : LX W h g A n c q) (ho : Only g w W) => lxnext h g n c q B A zs W hW (HB.out.only ho hB HGW.out) hn)
  have HN0 := Lib.hid (show 0 ≤ n0 ∧ n0 ≤ 7 from ⟨h0, h7⟩)
  have HLN := Lib.hid hb.len
  obtain ⟨R, hR⟩ : ∃ R, octR zs p n0 = R := ⟨_, rfl⟩
  rw [hR]
  have HR := Lib.hid hR
  clear hx hb hR h0 h7
  go_enter Try.func129, Try.ntmps129
  go_wp2_with fail
  go_loopg [1, 5, 6] 3 (fun gk s1 s5 s6 wr => ∃ (i q : Nat) (m : Int), s6 = .int .i64 i ∧ s1 = .int .i64 m ∧ 0 ≤ m ∧ m ≤ 511 ∧ i ≤ 2 ∧ Hid (gk + i = 3) ∧ Hid (LX wr h g A n c q) ∧ Hid (Only g w wr) ∧ Hid ((i = 0 ∧ m ≤ 7 ∧ octR zs q m = R) ∨ (i = 1 ∧ m ≤ 63 ∧ (if octB (peekZ zs (q : Int)) = true then ((m * 8 + (peekZ zs (q : Int) - 48)) % 256, q + 1) else (m % 256, q)) = R) ∨ (i = 2 ∧ (m % 256, q) = R)))
  case atStart => exact ⟨0, p, n0, rfl, rfl, HN0.out.1, by have := HN0.out.2; omega, by omega, Lib.hid rfl, HX, Lib.hid (Only.refl _ _), Lib.hid (.inl ⟨rfl, HN0.out.2, HR.out⟩)⟩
  case round =>
    obtain ⟨i, q, m, rfl, rfl, m0, m1, hi2, HG, HXR, HOR, HC⟩ := hrel
    have k0 := HXR.out.k0
    have wm : IntKind.i64.wrap (m.tmod 256) = m % 256 := by rw [Int.tmod_eq_emod_of_nonneg m0]; exact IntWalk.i64_in _ (by omega)
    have wm2 : m.tmod 256 = m % 256 := Int.tmod_eq_emod_of_nonneg m0
    by_cases hi : i = 2
    · have hR2 : Hid ((m % 256, q) = R) := Lib.hid (by
        rcases HC.out with ⟨h1, _⟩ | ⟨h1, _⟩ | ⟨_, h2⟩
        · omega
        · omega
        · exact h2)
      have gi : ¬ ((i : Int) < 2) := by omega
      have HI := Lib.hid hi
      clear hi hi2
      go_wp2_with fail
      go_ret
      rw [← hR2.out]
      exact ⟨ret_int (by first | rfl | omega), HXR.out, HOR.out⟩
    · have gi : (i : Int) < 2 := by omega
      have HPK2 := Lib.hid (HPK.out wr q HXR.out HOR.out)
      rw [Int.add_zero] at HPK2
      have HNX2 := Lib.hid (fun j => HNX.out (wr.drewN j) q (HXR.out.drewN j) (HOR.out.drewN j))
      obtain ⟨y, hy⟩ : ∃ y, peekZ zs (q : Int) = y := ⟨_, rfl⟩
      have HY := Lib.hid hy
      rw [hy] at HPK2
      have HI := Lib.hid (show i < 2 by omega)
      rcases ho : octB y with _ | _
      · have hR2 : Hid ((m % 256, q) = R) := Lib.hid (by
          rcases HC.out with ⟨h1, _, h2⟩ | ⟨h1, _, h2⟩ | ⟨h1, _⟩
          · rw [octR, hy, if_neg (by rw [ho]; decide)] at h2; exact h2
          · rw [hy, if_neg (by rw [ho]; decide)] at h2; exact h2
          · omega)
        have hcs := oct_out y ho
        clear hi hi2 hy ho
        rcases hcs with h1 | h1
        · go_wp2_with (first
            | (go_at_call 87; refine HPK2.out.mono ?_; (rintro e w2 ⟨rfl, q2, rfl⟩)))
          go_ret
          rw [← hR2.out]
          exact ⟨ret_int (by first | rfl | omega), HXR.out.drewN q2, HOR.out.drewN q2⟩
        · have h2 : decide (y < 48) = false := decide_eq_false (by omega)
          go_wp2_with (first
            | (go_at_call 87; refine HPK2.out.mono ?_; (rintro e w2 ⟨rfl, q2, rfl⟩)))
          go_ret
          rw [← hR2.out]
          exact ⟨ret_int (by first | rfl | omega), HXR.out.drewN q2, HOR.out.drewN q2⟩
      · have hyb := oct_in y ho
        have hq := peekZ_lt zs q (by omega)
        have hqn : q < n := by have := HLN.out; omega
        rw [nxP_in hqn] at HNX2
        have hm63 : Hid (m ≤ 63) := Lib.hid (by
          rcases HC.out with ⟨h1, h2, _⟩ | ⟨h1, h2, _⟩ | ⟨h1, _⟩ <;> omega)
        obtain ⟨m2, hm2⟩ : ∃ m2, m * 8 + (y - 48) = m2 := ⟨_, rfl⟩
        have hm2b : 0 ≤ m2 ∧ m2 ≤ 511 := by have := hm63.out; omega
        have HM2B := Lib.hid hm2b
        have HCC : Hid ((i + 1 = 1 ∧ m2 ≤ 63 ∧ (if octB (peekZ zs ((q + 1 : Nat) : Int)) = true then ((m2 * 8 + (peekZ zs ((q + 1 : Nat) : Int) - 48)) % 256, q + 1 + 1) else (m2 % 256, q + 1)) = R) ∨ (i + 1 = 2 ∧ (m2 % 256, q + 1) = R)) := Lib.hid (by
          rcases HC.out with ⟨h1, h3, h2⟩ | ⟨h1, h3, h2⟩ | ⟨h1, _⟩
          · rw [octR, hy, if_pos ho, hm2] at h2; exact .inl ⟨by omega, by omega, h2⟩
          · rw [hy, if_pos ho, hm2] at h2; exact .inr ⟨by omega, h2⟩
          · omega)
        have w1 : IntKind.i64.wrap (m * 8) = m * 8 := IntWalk.i64_in _ (by have := hm63.out; omega)
        have w2' : IntKind.i64.wrap (m * 8 + y) = m * 8 + y := IntWalk.i64_in _ (by have := hm63.out; omega)
        have w3' : IntKind.i64.wrap (m * 8 + y - 48) = m2 := by rw [show m * 8 + y - 48 = m2 by omega]; exact IntWalk.i64_in _ (by omega)
        have g1 : ¬ y < 48 := by omega
        have g1' : decide (y < 48) = false := decide_eq_false g1
        have g2 : ¬ y > 55 := by omega
        have g2' : decide (y > 55) = false := decide_eq_false g2
        have g3' : decide (55 < y) = false := decide_eq_false (by omega)
        clear hi hi2 hy ho hyb hq hqn hm2 hm2b
        go_wp2_with (first
          | (go_at_call 87; refine HPK2.out.mono ?_; (rintro e w2 ⟨rfl, q2, rfl⟩))
          | (go_at_call 113; refine (HNX2.out _).mono ?_; (rintro e w3 ⟨rfl, hx3, ho3⟩); have HX3 := Lib.hid hx3; have HO3 := Lib.hid ((HOR.out.drewN q2).trans ho3); clear hx3 ho3))
        go_roundg (gk - 1)
        case rel => exact ⟨i + 1, q + 1, m2, by go_num, rfl, HM2B.out.1, HM2B.out.2, by have := HI.out; omega, Lib.hid (by have := HG.out; have := HI.out; omega), HX3, HO3, Lib.hid (.inr HCC.out)⟩
        case measure => have := HG.out; have := HI.out; omega
end

section
open Go.RowKit
set_option linter.unusedVariables false
set_option maxRecDepth 100000
/-- What 'escaped' answers. -/
def escE (zs : List Int) (n p : Nat) : Int × Nat := if p < n then escZ zs p else (-1, p)
set_option maxHeartbeats 2000000 in
theorem pescC (h g n c p B : Nat) (A : Option Addr) (zs : List Int) (w : World) (hx : LX w h g A n c p) (hb : Byt w B A n c zs) (hB : B ≤ g) (hn : n ≤ 1000000) :
    Calls Try.prog 115 #[.pointer (some ⟨h, 0, none⟩)] w fun e w' => e = .returned (.int .i64 (escE zs n p).1) ∧ LX w' h g A n c (escE zs n p).2 ∧ Only g w w' := by
  have HX := Lib.hid hx
  have HB := Lib.hid hb
  have HGW := Lib.hid (Nat.le_of_lt hx.cu.lt)
  have HNX := Lib.hid (lxnext h g n c p B A zs w hx hb hn)
  have HLI := Lib.hid (fun W q x (hW : LX W h g A n c q) (ho : Only g w W) => plineC h g n c q B A zs x W hW (HB.out.only ho hB HGW.out) hn)
  have HOC := Lib.hid (fun W q n0 (hW : LX W h g A n c q) (ho : Only g w W) h0 h7 => poctalC h g n c q B A zs n0 W hW (HB.out.only ho hB HGW.out) hB hn h0 h7)
  have hl := hb.len
  have k0 := hx.k0
  have hpl := hx.pl
  have hbd := peekZ_bd zs hb.rng (p : Int)
  obtain ⟨y, hy⟩ : ∃ y, peekZ zs (p : Int) = y := ⟨_, rfl⟩
  rw [hy] at HNX hbd
  by_cases hlt : 0 ≤ y
  · have hp : p < n := by have := peekZ_lt zs p (by omega); omega
    rw [nxP_in hp] at HNX
    rw [escE, if_pos hp]
    clear hx hb hl hpl hp
    obtain rfl | rfl | rfl | rfl | rfl | hy1 : y = 110 ∨ y = 114 ∨ y = 116 ∨ y = 98 ∨ y = 102 ∨ (y ≠ 110 ∧ y ≠ 114 ∧ y ≠ 116 ∧ y ≠ 98 ∧ y ≠ 102) := by omega
    · have hE : escZ zs p = (10, p + 1) := by simp [escZ, hy]
      rw [hE]
      clear hE hy
      go_enter Try.func115, Try.ntmps115
      go_wp2_with (go_at_call 113; refine HNX.out.mono ?_; (rintro e w2 ⟨rfl, hx2, ho2⟩); have HX2 := Lib.hid hx2; have HO2 := Lib.hid ho2; clear hx2 ho2)
      go_ret
      exact ⟨rfl, HX2.out, HO2.out⟩
    · have hE : escZ zs p = (13, p + 1) := by simp [escZ, hy]
      rw [hE]
      clear hE hy
      go_enter Try.func115, Try.ntmps115
      go_wp2_with (go_at_call 113; refine HNX.out.mono ?_; (rintro e w2 ⟨rfl, hx2, ho2⟩); have HX2 := Lib.hid hx2; have HO2 := Lib.hid ho2; clear hx2 ho2)
      go_ret
      exact ⟨rfl, HX2.out, HO2.out⟩
    · have hE : escZ zs p = (9, p + 1) := by simp [escZ, hy]
      rw [hE]
      clear hE hy
      go_enter Try.func115, Try.ntmps115
      go_wp2_with (go_at_call 113; refine HNX.out.mono ?_; (rintro e w2 ⟨rfl, hx2, ho2⟩); have HX2 := Lib.hid hx2; have HO2 := Lib.hid ho2; clear hx2 ho2)
      go_ret
      exact ⟨rfl, HX2.out, HO2.out⟩
    · have hE : escZ zs p = (8, p + 1) := by simp [escZ, hy]
      rw [hE]
      clear hE hy
      go_enter Try.func115, Try.ntmps115
      go_wp2_with (go_at_call 113; refine HNX.out.mono ?_; (rintro e w2 ⟨rfl, hx2, ho2⟩); have HX2 := Lib.hid hx2; have HO2 := Lib.hid ho2; clear hx2 ho2)
      go_ret
      exact ⟨rfl, HX2.out, HO2.out⟩
    · have hE : escZ zs p = (12, p + 1) := by simp [escZ, hy]
      rw [hE]
      clear hE hy
      go_enter Try.func115, Try.ntmps115
      go_wp2_with (go_at_call 113; refine HNX.out.mono ?_; (rintro e w2 ⟨rfl, hx2, ho2⟩); have HX2 := Lib.hid hx2; have HO2 := Lib.hid ho2; clear hx2 ho2)
      go_ret
      exact ⟨rfl, HX2.out, HO2.out⟩
    · obtain ⟨a1, a2, a3, a4, a5⟩ := hy1
      obtain rfl | rfl | hy2 : y = 13 ∨ y = 10 ∨ (y ≠ 13 ∧ y ≠ 10) := by omega
      · have hE : escZ zs p = (-1, if peekZ zs ((p + 1 : Nat) : Int) = 10 then p + 2 else p + 1) := by simp [escZ, hy]
        rw [hE]
        have HLI2 := Lib.hid (fun W hW ho => HLI.out W (p + 1) 13 hW ho)
        have eQ : (p + 1 + if peekZ zs ((p + 1 : Nat) : Int) = 10 then 1 else 0) = if peekZ zs ((p + 1 : Nat) : Int) = 10 then p + 2 else p + 1 := by split <;> omega
        simp only [if_true, eQ] at HLI2
        obtain ⟨qq, hqq⟩ : ∃ qq, (if peekZ zs ((p + 1 : Nat) : Int) = 10 then p + 2 else p + 1) = qq := ⟨_, rfl⟩
        rw [hqq] at HLI2 ⊢
        clear eQ hqq
        clear hE hy
        go_enter Try.func115, Try.ntmps115
        go_wp2_with (first
          | (go_at_call 113; refine HNX.out.mono ?_; (rintro e w2 ⟨rfl, hx2, ho2⟩); have HX2 := Lib.hid hx2; have HO2 := Lib.hid ho2; clear hx2 ho2)
          | (go_at_call 114; refine (HLI2.out _ HX2.out HO2.out).mono ?_; (rintro e w3 ⟨rfl, hx3, ho3⟩); have HX3 := Lib.hid hx3; have HO3 := Lib.hid (HO2.out.trans ho3); clear hx3 ho3))
        go_ret
        exact ⟨rfl, HX3.out, HO3.out⟩
      · have hE : escZ zs p = (-1, p + 1) := by simp [escZ, hy]
        rw [hE]
        have HLI2 := Lib.hid (fun W hW ho => HLI.out W (p + 1) 10 hW ho)
        rw [show (if (10 : Int) = 13 then (p + 1 + if peekZ zs ((p + 1 : Nat) : Int) = 10 then 1 else 0) else p + 1) = p + 1 from rfl] at HLI2
        clear hE hy
        go_enter Try.func115, Try.ntmps115
        go_wp2_with (first
          | (go_at_call 113; refine HNX.out.mono ?_; (rintro e w2 ⟨rfl, hx2, ho2⟩); have HX2 := Lib.hid hx2; have HO2 := Lib.hid ho2; clear hx2 ho2)
          | (go_at_call 114; refine (HLI2.out _ HX2.out HO2.out).mono ?_; (rintro e w3 ⟨rfl, hx3, ho3⟩); have HX3 := Lib.hid hx3; have HO3 := Lib.hid (HO2.out.trans ho3); clear hx3 ho3))
        go_ret
        exact ⟨rfl, HX3.out, HO3.out⟩
      · obtain ⟨a6, a7⟩ := hy2
        by_cases ho : 48 ≤ y ∧ y ≤ 55
        · have hE : escZ zs p = octR zs (p + 1) (y - 48) := by
            have hob : octB y = true := by unfold octB; simpa using ho
            simp only [escZ, hy, a1, a2, a3, a4, a5, a6, a7, if_false, hob, if_true, octR]
          rw [hE]
          have HOC2 := Lib.hid (fun W hW ho' => HOC.out W (p + 1) (y - 48) hW ho' (by omega) (by omega))
          obtain ⟨R, hR⟩ : ∃ R, octR zs (p + 1) (y - 48) = R := ⟨_, rfl⟩
          rw [hR] at HOC2 ⊢
          clear hE hy hR a1 a2 a3 a4 a5 a6 a7 hbd hlt
          obtain rfl | rfl | rfl | rfl | rfl | rfl | rfl | rfl : y = 48 ∨ y = 49 ∨ y = 50 ∨ y = 51 ∨ y = 52 ∨ y = 53 ∨ y = 54 ∨ y = 55 := by omega
          all_goals
            clear ho
            simp only [Int.reduceSub] at HOC2
            go_enter Try.func115, Try.ntmps115
            go_wp2_with (first
              | (go_at_call 113; refine HNX.out.mono ?_; (rintro e w2 ⟨rfl, hx2, ho2⟩); have HX2 := Lib.hid hx2; have HO2 := Lib.hid ho2; clear hx2 ho2)
              | (go_at_call 129; refine (HOC2.out _ HX2.out HO2.out).mono ?_; (rintro e w3 ⟨rfl, hx3, ho3⟩); have HX3 := Lib.hid hx3; have HO3 := Lib.hid (HO2.out.trans ho3); clear hx3 ho3))
            go_ret
            exact ⟨rfl, HX3.out, HO3.out⟩
        · have hE : escZ zs p = (y, p + 1) := by
            have hob : octB y = false := by unfold octB; simpa using ho
            simp [escZ, hy, a1, a2, a3, a4, a5, a6, a7, hob]
          rw [hE]
          have b1 : (y == 110) = false := beq_eq_false_iff_ne.2 a1
          have b2 : (y == 114) = false := beq_eq_false_iff_ne.2 a2
          have b3 : (y == 116) = false := beq_eq_false_iff_ne.2 a3
          have b4 : (y == 98) = false := beq_eq_false_iff_ne.2 a4
          have b5 : (y == 102) = false := beq_eq_false_iff_ne.2 a5
          have b6 : (y == 13) = false := beq_eq_false_iff_ne.2 a6
          have b7 : (y == 10) = false := beq_eq_false_iff_ne.2 a7
          have d0 : (y == 48) = false := beq_eq_false_iff_ne.2 (by omega)
          have d1 : (y == 49) = false := beq_eq_false_iff_ne.2 (by omega)
          have d2 : (y == 50) = false := beq_eq_false_iff_ne.2 (by omega)
          have d3 : (y == 51) = false := beq_eq_false_iff_ne.2 (by omega)
          have d4 : (y == 52) = false := beq_eq_false_iff_ne.2 (by omega)
          have d5 : (y == 53) = false := beq_eq_false_iff_ne.2 (by omega)
          have d6 : (y == 54) = false := beq_eq_false_iff_ne.2 (by omega)
          have d7 : (y == 55) = false := beq_eq_false_iff_ne.2 (by omega)
          clear hE hy a1 a2 a3 a4 a5 a6 a7 hbd hlt ho
          go_enter Try.func115, Try.ntmps115
          go_wp2_with (go_at_call 113; refine HNX.out.mono ?_; (rintro e w2 ⟨rfl, hx2, ho2⟩); have HX2 := Lib.hid hx2; have HO2 := Lib.hid ho2; clear hx2 ho2)
          go_ret
          exact ⟨rfl, HX2.out, HO2.out⟩
  · obtain rfl : y = -1 := by omega
    have hp : ¬ p < n := fun hp => by
      have h1 := peekZ_in zs p (by omega)
      rw [getD_eq zs p (by omega)] at h1
      have := (hb.rng _ (List.getElem_mem (show p < zs.length by omega))).1
      omega
    rw [escE, if_neg hp]
    rw [nxP, if_neg hp] at HNX
    clear hx hb hl hpl hp hy hlt hbd
    go_enter Try.func115, Try.ntmps115
    go_wp2_with (go_at_call 113; refine HNX.out.mono ?_; (rintro e w2 ⟨rfl, hx2, ho2⟩); have HX2 := Lib.hid hx2; have HO2 := Lib.hid ho2; clear hx2 ho2)
    go_ret
    exact ⟨rfl, HX2.out, HO2.out⟩
theorem esc_bd (zs : List Int) (hr : ∀ z ∈ zs, 0 ≤ z ∧ z < 256) (p : Nat) (h : p < zs.length) : -1 ≤ (escZ zs p).1 ∧ (escZ zs p).1 < 256 ∧ p < (escZ zs p).2 ∧ (escZ zs p).2 ≤ zs.length := by
  have hb := peekZ_bd zs hr (p : Int)
  have l1 : peekZ zs ((p + 1 : Nat) : Int) = 10 → p + 1 < zs.length := fun e => peekZ_lt zs (p + 1) (by omega)
  have l2 : octB (peekZ zs ((p + 1 : Nat) : Int)) = true → p + 1 < zs.length := fun e => peekZ_lt zs (p + 1) (by have := oct_in _ e; omega)
  have l3 : octB (peekZ zs ((p + 2 : Nat) : Int)) = true → p + 2 < zs.length := fun e => peekZ_lt zs (p + 2) (by have := oct_in _ e; omega)
  unfold escZ
  repeat' split
  all_goals (dsimp only; first | omega | (refine ⟨?_, ?_, ?_, ?_⟩ <;> first | omega | (rename_i e; have := l1 e; omega) | (rename_i e _; have := l2 e; omega) | (rename_i e; have := l2 e; omega) | (rename_i e; have := l3 e; omega)))
end

section
open Go.RowKit
set_option linter.unusedVariables false
set_option maxRecDepth 100000
/-- The second box. -/
theorem NS.start {w W0 : World} {h g n c p : Nat} {A : Option Addr} (k : Int) (hx : LX W0 h g A n c p) (ho : Only g w W0) (hb : Bx W0 w.heap.size 56 (.int .i64 0) (.int .i64 0) (.int .i64 0) (.slice none 0 0)) (hs : W0.heap.size = w.heap.size + 1) (hl : g < w.heap.size ∧ h < w.heap.size) :
    NS w (W0.alloc (.cells #[.int .i64 k, .int .i64 0, .int .i64 0, .slice none 0 0] 56)) h g A n c p k (.slice none 0 0) [] := by
  have hal := (Below.refl W0.heap.size W0).alloc (Nat.le_refl _) (.cells #[.int .i64 k, .int .i64 0, .int .i64 0, .slice none 0 0] 56)
  have hbn := Bx.new W0 56 (.int .i64 k) (.int .i64 0) (.int .i64 0) (.slice none 0 0)
  rw [hs] at hbn
  exact ⟨hx.below hal hx.lt hx.cu.lt, ho.trans (Only.of_below hal g), hb.below hal (by omega), hbn, Mine.nil _ _, hl.2, hl.1⟩
theorem nm_step (zs : List Int) (n : Nat) (hl : zs.length = n) (hr : ∀ z ∈ zs, 0 ≤ z ∧ z < 256) (f q : Nat) (out : List Int) (R : Int × List Int × Nat) (hR : nameF zs (f + 1) q out = R) (hg : regB (peekZ zs (q : Int)) = true) :
    q < n ∧ ((nmR zs n q).1 ≤ 0 ∧ R.1 = 4 ∨ 0 < (nmR zs n q).1 ∧ (nmR zs n q).1 < 256 ∧ q < (nmR zs n q).2 ∧ (nmR zs n q).2 ≤ n ∧ ((127 ≤ out.length ∧ R.1 = 3) ∨ (out.length < 127 ∧ nameF zs f (nmR zs n q).2 (out ++ [(nmR zs n q).1]) = R))) := by
  have hw : whB (peekZ zs (q : Int)) = false ∧ 0 ≤ peekZ zs (q : Int) := by
    unfold regB at hg
    simp at hg
    exact ⟨by simpa using hg.2.2, hg.2.1.1⟩
  have hq := peekZ_lt zs q hw.2
  have hbd := peekZ_bd zs hr (q : Int)
  refine ⟨by omega, ?_⟩
  have h0 : ¬ peekZ zs (q : Int) = 0 := fun e => by have := hw.1; rw [e] at this; cases this
  rw [nameF, if_neg (by rw [hg]; decide)] at hR
  unfold nmR
  rw [nxP_in (by omega : q < n)]
  by_cases h35 : peekZ zs (q : Int) = 35
  · rw [if_pos h35] at hR ⊢
    have b1 := dgZ_bd (peekZ zs ((q + 1 : Nat) : Int))
    by_cases d1 : dgZ (peekZ zs ((q + 1 : Nat) : Int)) < 0
    · rw [if_pos (.inl d1)] at hR
      rw [if_pos d1]
      exact .inl ⟨by omega, by rw [← hR]⟩
    · have hq1 := peekZ_lt zs (q + 1) (by
        have := peekZ_bd zs hr ((q + 1 : Nat) : Int)
        rcases Int.lt_or_le (peekZ zs ((q + 1 : Nat) : Int)) 0 with h | h
        · exact absurd (show dgZ (peekZ zs ((q + 1 : Nat) : Int)) < 0 by rw [show peekZ zs ((q + 1 : Nat) : Int) = -1 by omega]; decide) d1
        · exact h)
      rw [if_neg d1, nxP_in (by omega : q + 1 < n)]
      have b2 := dgZ_bd (peekZ zs ((q + 1 + 1 : Nat) : Int))
      by_cases d2 : dgZ (peekZ zs ((q + 1 + 1 : Nat) : Int)) < 0
      · rw [if_pos (.inr (.inl d2))] at hR
        rw [if_pos d2]
        exact .inl ⟨by omega, by rw [← hR]⟩
      · have hq2 := peekZ_lt zs (q + 1 + 1) (by
          have := peekZ_bd zs hr ((q + 1 + 1 : Nat) : Int)
          rcases Int.lt_or_le (peekZ zs ((q + 1 + 1 : Nat) : Int)) 0 with h | h
          · exact absurd (show dgZ (peekZ zs ((q + 1 + 1 : Nat) : Int)) < 0 by rw [show peekZ zs ((q + 1 + 1 : Nat) : Int) = -1 by omega]; decide) d2
          · exact h)
        rw [if_neg d2, nxP_in (by omega : q + 1 + 1 < n)]
        by_cases d3 : dgZ (peekZ zs ((q + 1 : Nat) : Int)) + dgZ (peekZ zs ((q + 1 + 1 : Nat) : Int)) = 0
        · rw [if_pos (.inr (.inr d3))] at hR
          exact .inl ⟨by dsimp only; omega, by rw [← hR]⟩
        · rw [if_neg (by rintro (h | h | h) <;> contradiction)] at hR
          refine .inr ⟨by dsimp only; omega, by dsimp only; omega, by dsimp only; omega, by dsimp only; omega, ?_⟩
          by_cases h127 : 127 ≤ out.length
          · rw [if_pos h127] at hR
            exact .inl ⟨h127, by rw [← hR]⟩
          · rw [if_neg h127] at hR
            exact .inr ⟨by omega, hR⟩
  · rw [if_neg h35] at hR ⊢
    refine .inr ⟨by dsimp only; omega, by dsimp only; omega, by dsimp only; omega, by dsimp only; omega, ?_⟩
    by_cases h127 : 127 ≤ out.length
    · rw [if_pos h127] at hR
      exact .inl ⟨h127, by rw [← hR]⟩
    · rw [if_neg h127] at hR
      exact .inr ⟨by omega, hR⟩
theorem nmR_le (zs : List Int) (n p : Nat) (h : p ≤ n) : (nmR zs n p).2 ≤ n := by
  have h1 := nxP_le h
  have h2 := nxP_le h1
  have h3 := nxP_le h2
  unfold nmR
  split
  · split
    · exact h3
    · split
      · exact h3
      · exact h3
  · exact h1
set_option maxHeartbeats 4000000 in
theorem pnameC (h g n c p B : Nat) (A : Option Addr) (zs : List Int) (w : World) (hx : LX w h g A n c p) (hb : Byt w B A n c zs) (hB : B ≤ g) (hn : n ≤ 1000000) :
    Calls Try.prog 94 #[.pointer (some ⟨h, 0, none⟩)] w (TkP h g A n c ⟨(nameF zs (zs.length + 1) p []).1, 4, 0, (nameF zs (zs.length + 1) p []).2.1, (nameF zs (zs.length + 1) p []).2.2⟩ w) := by
  have HB := Lib.hid hb
  have HGW := Lib.hid (Nat.le_of_lt hx.cu.lt)
  have HL := Lib.hid hb.len
  have HPL := Lib.hid hx.pl
  have hbx := Bx.new w 56 (.int .i64 0) (.int .i64 0) (.int .i64 0) (.slice none 0 0)
  have hb0 : Below w.heap.size w (w.alloc (.cells (tkC 0 0 0 none 0 0) 56)) := (Below.refl w.heap.size w).alloc (Nat.le_refl _) _
  obtain ⟨W0, hW0⟩ : ∃ W0, w.alloc (.cells (tkC 0 0 0 none 0 0) 56) = W0 := ⟨_, rfl⟩
  have hs0 : W0.heap.size = w.heap.size + 1 := by rw [← hW0]; simp
  rw [show w.alloc (.cells #[.int .i64 0, .int .i64 0, .int .i64 0, .slice none 0 0] 56) = W0 from hW0] at hbx
  rw [hW0] at hb0
  have HW0 := Lib.hid (show w.alloc (.cells #[.int .i64 0, .int .i64 0, .int .i64 0, .slice none 0 0] 56) = W0 from hW0)
  have HBX := Lib.hid hbx
  have HB0 := Lib.hid hb0
  have HS0 := Lib.hid hs0
  have HO0 : Hid (Only g w W0) := Lib.hid (Only.of_below hb0 g)
  have hltg := hx.cu.lt
  have hlth := hx.lt
  have HX0 := Lib.hid (hx.below hb0 hlth hltg)
  have HBY0 := Lib.hid (hb.below hb0 (by omega))
  have HLT := Lib.hid (show g < w.heap.size ∧ h < w.heap.size from ⟨hltg, hlth⟩)
  clear hbx hb0 hW0 hs0 hltg hlth
  have HNS0 := Lib.hid (NS.start (w := w) 4 HX0.out HO0.out HBX.out HS0.out HLT.out)
  obtain ⟨W1, hW1⟩ : ∃ W1, W0.alloc (.cells #[.int .i64 4, .int .i64 0, .int .i64 0, .slice none 0 0] 56) = W1 := ⟨_, rfl⟩
  rw [hW1] at HNS0
  have HW1 := Lib.hid hW1
  have HPK := Lib.hid (fun W q (hW : LX W h g A n c q) (ho : Only g w W) => peek_any g n c q B A zs 0 W hW.cu (HB.out.only ho hB HGW.out) hW.pl hn)
  have HNM := Lib.hid (fun W q (hW : LX W h g A n c q) (ho : Only g w W) => pnamedC h g n c q B A zs W hW (HB.out.only ho hB HGW.out) hB hn)
  obtain ⟨R, hR⟩ : ∃ R, nameF zs (zs.length + 1) p [] = R := ⟨_, rfl⟩
  rw [hR]
  have HR := Lib.hid hR
  clear hx hb hW1 hR
  go_enter Try.func94, Try.ntmps94
  go_wp2_with fail
  rw [HW0.out, HW1.out]
  go_loopg [5] (n + 1) (fun gk s5 wr => ∃ (q : Nat) (v : Value) (out : List Int), Hid (NS w wr h g A n c q 4 v out) ∧ Hid (nameF zs gk q out = R) ∧ Hid (n < gk + q) ∧ Hid (out.length ≤ 127))
  case atStart => exact ⟨p, _, [], HNS0, Lib.hid (by rw [← HL.out]; exact HR.out), Lib.hid (by omega), Lib.hid (by simp)⟩
  case round =>
    obtain ⟨q, v, out, HN, HF, HG, HOL⟩ := hrel
    have hgk : ∃ f, gk = f + 1 := ⟨gk - 1, by have := HN.out.lx.pl; have := HG.out; omega⟩
    obtain ⟨f, rfl⟩ := hgk
    have k0 := HN.out.lx.k0
    have HPK2 := Lib.hid (HPK.out wr q HN.out.lx HN.out.ol)
    rw [Int.add_zero] at HPK2
    have HRG := Lib.hid (fun W => pregC (peekZ zs (q : Int)) W)
    have HST := Lib.hid (fun hg => nm_step zs n HL.out HB.out.rng f q out R HF.out hg)
    obtain ⟨y, hy⟩ : ∃ y, peekZ zs (q : Int) = y := ⟨_, rfl⟩
    rcases hg : regB y with _ | _
    · have HE : Hid (R = (0, out, q)) := Lib.hid (by rw [← HF.out, nameF, hy, if_pos hg])
      rw [hy] at HPK2 HRG
      rw [hg] at HRG
      obtain ⟨A', c', rfl, hby, hfr⟩ := HN.out.byt
      have HBY := Lib.hid hby
      have HFR := Lib.hid hfr
      have t0 := HN.out.b1.c0
      have t1 := HN.out.b1.c1
      have t2 := HN.out.b1.c2
      have t3 := HN.out.b1.c3
      have r0 := HN.out.b0.c0
      have r1 := HN.out.b0.c1
      have r2 := HN.out.b0.c2
      have r3 := HN.out.b0.c3
      have rf := HN.out.b0.fr
      clear hy hg hby hfr HST
      go_wp2_with (first
        | (go_at_call 87; refine HPK2.out.mono ?_; (rintro e w2 ⟨rfl, q2, rfl⟩))
        | (go_at_call 91; refine (HRG.out _).mono ?_; (rintro e w3 ⟨rfl, rfl⟩)))
      have HN2 := Lib.hid (HN.out.drewN q2)
      refine bodyPost_ret (results_cell_row_tmp rfl _ _ w.heap.size 56 _ (0, 0) _ rfl HN2.out.b0.set4_ Try.underlying56 rfl (by kernel_rfl) _ rfl) rfl ?_
      have hl := HLT.out
      rw [HE.out]
      exact ⟨_, _, _, _, _, _, _, rfl, HN2.out.lx.set4_ (by omega) (by omega), HN2.out.ol.set4_ (Nat.le_refl _), fun _ => ⟨rfl, rfl, rfl, by rw [size_set4]; exact (HBY.out.drewN q2).set4_ HFR.out (by omega), fun h0 b o e => by have := HFR.out h0 b o e; omega⟩⟩
    · have HST2 := Lib.hid (HST.out (by rw [hy]; exact hg))
      rw [hy] at HPK2 HRG
      rw [hg] at HRG
      have HNM2 := Lib.hid (fun j => HNM.out (wr.drewN j) q (HN.out.lx.drewN j) (HN.out.ol.drewN j))
      have HLE := Lib.hid (nmR_le zs n q HN.out.lx.pl)
      obtain ⟨⟨x1, q1⟩, hx1⟩ : ∃ X, nmR zs n q = X := ⟨_, rfl⟩
      rw [hx1] at HNM2 HST2 HLE
      clear hy hg HST hx1
      obtain ⟨hqn, hcs⟩ := HST2.out
      rcases hcs with ⟨hx0, hR4⟩ | ⟨hx0, hx256, hqq, hq1n, hcs⟩
      · have r0 := HN.out.b0.c0
        have HX0' := Lib.hid hx0
        have HR4 := Lib.hid hR4
        dsimp only at hx0
        clear hR4 hqn HST2
        go_wp2_with (first
          | (go_at_call 87; refine HPK2.out.mono ?_; (rintro e w2 ⟨rfl, q2, rfl⟩))
          | (go_at_call 91; refine (HRG.out _).mono ?_; (rintro e w3 ⟨rfl, rfl⟩))
          | (go_at_call 112; (with_reducible refine (HNM2.out _).mono ?_); (rintro e w4 ⟨rfl, hx4, ho4⟩); have HN4 := Lib.hid ((HN.out.drewN q2).moved hx4 ho4); clear hx4 ho4; have r0 := HN4.out.b0.c0; have r1 := HN4.out.b0.c1; have r2 := HN4.out.b0.c2; have r3 := HN4.out.b0.c3; have rf := HN4.out.b0.fr))
        refine bodyPost_ret (results_cell_row_tmp rfl _ _ w.heap.size 56 _ (0, 0) _ rfl HN4.out.b0.set4_ Try.underlying56 rfl (by kernel_rfl) _ rfl) rfl ?_
        have hl := HLT.out
        rw [HR4.out]
        exact ⟨_, _, _, _, _, _, _, rfl, HN4.out.lx.set4_ (by omega) (by omega), HN4.out.ol.set4_ (Nat.le_refl _), fun h0 => absurd (show (4 : Int) = 0 from h0) (by decide)⟩
      · dsimp only at hx0 hx256 hqq hq1n hcs
        have wV : IntKind.u8.wrap x1 = x1 := IntWalk.u8_in _ (by omega)
        have nx0 : ¬ x1 ≤ 0 := by omega
        have HX1 := Lib.hid (show 0 ≤ x1 ∧ x1 < 256 from ⟨by omega, hx256⟩)
        have hQQ := Lib.hid (show q < q1 from hqq)
        have HNR := Lib.hid (fun W (hW : NS w W h g A n c q1 4 v out) => hW.room x1 HX1.out (by have := HOL.out; omega))
        obtain ⟨A', c', rfl, hby, hfr⟩ := HN.out.byt
        clear hby hfr hqn HST2 hx0 hx256 hqq hq1n
        rcases hcs with ⟨h127, hR3⟩ | ⟨h127, hF⟩
        · have HR3 := Lib.hid hR3
          have hbig : ((out.length : Int) + 1 > 127) := by omega
          have hbig2 : ((out.length + 1 : Nat) : Int) > 127 := by omega
          clear hR3 h127
          go_wp2_with (first
            | (go_at_call 87; refine HPK2.out.mono ?_; (rintro e w2 ⟨rfl, q2, rfl⟩))
            | (go_at_call 91; refine (HRG.out _).mono ?_; (rintro e w3 ⟨rfl, rfl⟩))
            | (go_at_call 112; (with_reducible refine (HNM2.out _).mono ?_); (rintro e w4 ⟨rfl, hx4, ho4⟩); have HN4 := Lib.hid ((HN.out.drewN q2).moved hx4 ho4); clear hx4 ho4; have t3 := HN4.out.b1.c3)
            | (at_builtin; obtain ⟨v6, w6, hrun, hs6, hf6, hk6, A6, c6, rfl⟩ := HNR.out w4 HN4.out; refine Lib.wpList_append_run_sl _ rfl (.tmp 19) (.tmp 22) 23 rfl _ _ rfl rfl hrun ?_; clear hrun; have HN6 := Lib.hid hs6; clear hs6; have t3 := HN6.out.b1.c3; have r0 := HN6.out.b0.c0; have r1 := HN6.out.b0.c1; have r2 := HN6.out.b0.c2; have r3 := HN6.out.b0.c3; have rf := HN6.out.b0.fr))
          refine bodyPost_ret (results_cell_row_tmp rfl _ _ w.heap.size 56 _ (0, 0) _ rfl HN6.out.b0.set4_ Try.underlying56 rfl (by kernel_rfl) _ rfl) rfl ?_
          have hl := HLT.out
          rw [HR3.out]
          exact ⟨_, _, _, _, _, _, _, rfl, HN6.out.lx.set4_ (by omega) (by omega), HN6.out.ol.set4_ (Nat.le_refl _), fun h0 => absurd (show (3 : Int) = 0 from h0) (by decide)⟩
        · have HF2 := Lib.hid hF
          have H127 := Lib.hid h127
          have hbig : ¬ ((out.length : Int) + 1 > 127) := by omega
          have hbig2 : ¬ (((out.length + 1 : Nat) : Int) > 127) := by omega
          clear hF h127
          go_wp2_with (first
            | (go_at_call 87; refine HPK2.out.mono ?_; (rintro e w2 ⟨rfl, q2, rfl⟩))
            | (go_at_call 91; refine (HRG.out _).mono ?_; (rintro e w3 ⟨rfl, rfl⟩))
            | (go_at_call 112; (with_reducible refine (HNM2.out _).mono ?_); (rintro e w4 ⟨rfl, hx4, ho4⟩); have HN4 := Lib.hid ((HN.out.drewN q2).moved hx4 ho4); clear hx4 ho4; have t3 := HN4.out.b1.c3)
            | (at_builtin; obtain ⟨v6, w6, hrun, hs6, hf6, hk6, A6, c6, rfl⟩ := HNR.out w4 HN4.out; refine Lib.wpList_append_run_sl _ rfl (.tmp 19) (.tmp 22) 23 rfl _ _ rfl rfl hrun ?_; clear hrun; have HN6 := Lib.hid hs6; clear hs6; have t3 := HN6.out.b1.c3))
          go_roundg f
          case rel => exact ⟨q1, _, _, HN6, HF2, Lib.hid (by have h1 := HG.out; have h2 := hQQ.out; omega), Lib.hid (by rw [List.length_append]; have := H127.out; simp; omega)⟩
          case measure => omega
end

section
open Go.RowKit
set_option linter.unusedVariables false
set_option maxRecDepth 100000
theorem text_step (zs : List Int) (f q : Nat) (k k2 : Int) (out : List Int) (R : Int × List Int × Nat) (cc : Int) (q' : Nat) (d : Int) (hR : textF zs (f + 1) q k out = R) (hq : q < zs.length) (hp : pcZ zs q = (cc, q', d)) (hk : k + d = k2) :
    (k2 = 0 ∧ R = (0, out, q')) ∨ (k2 ≠ 0 ∧ cc < 0 ∧ textF zs f q' k2 out = R) ∨ (k2 ≠ 0 ∧ 0 ≤ cc ∧ 32767 ≤ out.length ∧ R.1 = 3) ∨ (k2 ≠ 0 ∧ 0 ≤ cc ∧ out.length < 32767 ∧ textF zs f q' k2 (out ++ [cc]) = R) := by
  rw [textF, if_neg (by omega), hp] at hR
  dsimp only at hR
  rw [hk] at hR
  by_cases h1 : k2 = 0
  · rw [if_pos h1] at hR
    exact .inl ⟨h1, hR.symm⟩
  · rw [if_neg h1] at hR
    by_cases h2 : cc < 0
    · rw [if_pos h2] at hR
      exact .inr (.inl ⟨h1, h2, hR⟩)
    · rw [if_neg h2] at hR
      by_cases h3 : 32767 ≤ out.length
      · rw [if_pos h3] at hR
        exact .inr (.inr (.inl ⟨h1, by omega, h3, by rw [← hR]⟩))
      · rw [if_neg h3] at hR
        exact .inr (.inr (.inr ⟨h1, by omega, by omega, hR⟩))
theorem text_end (zs : List Int) (f q : Nat) (k : Int) (out : List Int) (R : Int × List Int × Nat) (hR : textF zs (f + 1) q k out = R) (hq : zs.length ≤ q) : R.1 = 2 := by
  rw [textF, if_pos hq] at hR
  rw [← hR]
set_option maxHeartbeats 8000000 in
theorem ptextC (h g n c p B : Nat) (A : Option Addr) (zs : List Int) (w : World) (hx : LX w h g A n c p) (hb : Byt w B A n c zs) (hB : B ≤ g) (hn : n ≤ 1000000) :
    Calls Try.prog 95 #[.pointer (some ⟨h, 0, none⟩)] w (TkP h g A n c ⟨(textF zs (zs.length + 1) p 1 []).1, 3, 0, (textF zs (zs.length + 1) p 1 []).2.1, (textF zs (zs.length + 1) p 1 []).2.2⟩ w) := by
  have HB := Lib.hid hb
  have HGW := Lib.hid (Nat.le_of_lt hx.cu.lt)
  have HL := Lib.hid hb.len
  have HPL := Lib.hid hx.pl
  have hbx := Bx.new w 56 (.int .i64 0) (.int .i64 0) (.int .i64 0) (.slice none 0 0)
  have hb0 : Below w.heap.size w (w.alloc (.cells (tkC 0 0 0 none 0 0) 56)) := (Below.refl w.heap.size w).alloc (Nat.le_refl _) _
  obtain ⟨W0, hW0⟩ : ∃ W0, w.alloc (.cells (tkC 0 0 0 none 0 0) 56) = W0 := ⟨_, rfl⟩
  have hs0 : W0.heap.size = w.heap.size + 1 := by rw [← hW0]; simp
  rw [show w.alloc (.cells #[.int .i64 0, .int .i64 0, .int .i64 0, .slice none 0 0] 56) = W0 from hW0] at hbx
  rw [hW0] at hb0
  have HW0 := Lib.hid (show w.alloc (.cells #[.int .i64 0, .int .i64 0, .int .i64 0, .slice none 0 0] 56) = W0 from hW0)
  have HBX := Lib.hid hbx
  have HB0 := Lib.hid hb0
  have HS0 := Lib.hid hs0
  have HO0 : Hid (Only g w W0) := Lib.hid (Only.of_below hb0 g)
  have hltg := hx.cu.lt
  have hlth := hx.lt
  have HX0 := Lib.hid (hx.below hb0 hlth hltg)
  have HBY0 := Lib.hid (hb.below hb0 (by omega))
  have HLT := Lib.hid (show g < w.heap.size ∧ h < w.heap.size from ⟨hltg, hlth⟩)
  clear hbx hb0 hW0 hs0 hltg hlth
  have HNS0 := Lib.hid (NS.start (w := w) 3 HX0.out HO0.out HBX.out HS0.out HLT.out)
  obtain ⟨W1, hW1⟩ : ∃ W1, W0.alloc (.cells #[.int .i64 3, .int .i64 0, .int .i64 0, .slice none 0 0] 56) = W1 := ⟨_, rfl⟩
  rw [hW1] at HNS0
  have HW1 := Lib.hid hW1
  have HNX := Lib.hid (fun W q (hW : LX W h g A n c q) (ho : Only g w W) => lxnext h g n c q B A zs W hW (HB.out.only ho hB HGW.out) hn)
  have HLI := Lib.hid (fun W q x (hW : LX W h g A n c q) (ho : Only g w W) => plineC h g n c q B A zs x W hW (HB.out.only ho hB HGW.out) hn)
  have HES := Lib.hid (fun W q (hW : LX W h g A n c q) (ho : Only g w W) => pescC h g n c q B A zs W hW (HB.out.only ho hB HGW.out) hB hn)
  obtain ⟨R, hR⟩ : ∃ R, textF zs (zs.length + 1) p 1 [] = R := ⟨_, rfl⟩
  rw [hR]
  have HR := Lib.hid hR
  clear hx hb hW1 hR
  go_enter Try.func95, Try.ntmps95
  go_wp2_with fail
  rw [HW0.out, HW1.out]
  go_loopg [5, 6] (n + 1) (fun gk s5 s6 wr => ∃ (q : Nat) (k : Int) (v : Value) (out : List Int), s5 = .int .i64 k ∧ Hid (NS w wr h g A n c q 3 v out) ∧ Hid (textF zs gk q k out = R) ∧ Hid (n < gk + q) ∧ Hid (out.length ≤ 32767) ∧ Hid (1 ≤ k ∧ k ≤ q + 1))
  case atStart => exact ⟨p, 1, _, [], rfl, HNS0, Lib.hid (by rw [← HL.out]; exact HR.out), Lib.hid (by omega), Lib.hid (by simp), Lib.hid (by omega)⟩
  case round =>
    obtain ⟨q, k, v, out, rfl, HN, HF, HG, HOL, HK⟩ := hrel
    have hgk : ∃ f, gk = f + 1 := ⟨gk - 1, by have := HN.out.lx.pl; have := HG.out; omega⟩
    obtain ⟨f, rfl⟩ := hgk
    have k0 := HN.out.lx.k0
    have HNX2 := Lib.hid (HNX.out wr q HN.out.lx HN.out.ol)
    have hbd := peekZ_bd zs HB.out.rng (q : Int)
    obtain ⟨y, hy⟩ : ∃ y, peekZ zs (q : Int) = y := ⟨_, rfl⟩
    rw [hy] at HNX2 hbd
    have HY := Lib.hid hy
    by_cases hlt : y < 0
    · obtain rfl : y = -1 := by omega
      have HR2 : Hid (R.1 = 2) := Lib.hid (text_end zs f q k out R HF.out (by
        rcases Nat.lt_or_ge q zs.length with hq | hq
        · exfalso
          have h1 := peekZ_in zs q hq
          rw [getD_eq zs q hq] at h1
          have := (HB.out.rng _ (List.getElem_mem hq)).1
          omega
        · exact hq))
      clear hlt hbd hy
      go_wp2_with (first
        | (go_at_call 113; refine HNX2.out.mono ?_; (rintro e w2 ⟨rfl, hx2, ho2⟩); have HN4 := Lib.hid (HN.out.moved hx2 ho2); clear hx2 ho2; have r0 := HN4.out.b0.c0; have r1 := HN4.out.b0.c1; have r2 := HN4.out.b0.c2; have r3 := HN4.out.b0.c3; have rf := HN4.out.b0.fr))
      refine bodyPost_ret (results_cell_row_tmp rfl _ _ w.heap.size 56 _ (0, 0) _ rfl HN4.out.b0.set4_ Try.underlying56 rfl (by kernel_rfl) _ rfl) rfl ?_
      have hl := HLT.out
      rw [HR2.out]
      exact ⟨_, _, _, _, _, _, _, rfl, HN4.out.lx.set4_ (by omega) (by omega), HN4.out.ol.set4_ (Nat.le_refl _), fun h0 => absurd (show (2 : Int) = 0 from h0) (by decide)⟩
    · have hq : q < zs.length := peekZ_lt zs q (by omega)
      have hqn : q < n := by have := HL.out; omega
      rw [nxP_in hqn] at HNX2
      have HQ := Lib.hid hq
      have HQN := Lib.hid hqn
      have hkk := HK.out
      clear hq hqn
      obtain rfl | rfl | rfl | rfl | rfl | hy1 : y = 40 ∨ y = 41 ∨ y = 13 ∨ y = 10 ∨ y = 92 ∨ (y ≠ 40 ∧ y ≠ 41 ∧ y ≠ 13 ∧ y ≠ 10 ∧ y ≠ 92) := by omega
      · have hpc : pcZ zs q = (40, q + 1, 1) := by simp [pcZ, hy]
        obtain ⟨k2, hk2⟩ : ∃ k2, k + 1 = k2 := ⟨_, rfl⟩
        have HK2 := Lib.hid (show k2 = k + 1 from hk2.symm)
        have wk : IntKind.i64.wrap (k + 1) = k2 := by rw [hk2]; exact IntWalk.i64_in _ (by have := HN.out.lx.pl; omega)
        have HQQ := Lib.hid (show q < q + 1 by omega)
        rcases text_step zs f q k k2 out R 40 _ 1 HF.out HQ.out hpc hk2 with ⟨hz, hE⟩ | ⟨hz, hc0, hF⟩ | ⟨hz, hc0, h127, hE⟩ | ⟨hz, hc0, h127, hF⟩
        · omega
        · omega
        · have hzb : (k2 == 0) = false := beq_eq_false_iff_ne.2 hz
          have HZ := Lib.hid hz
          have HE := Lib.hid hE
          have hbig : ((out.length : Int) + 1 > 32767) := by omega
          have hbig2 : ((out.length + 1 : Nat) : Int) > 32767 := by omega
          have HNR := Lib.hid (fun W qq (hW : NS w W h g A n c qq 3 v out) => hW.room 40 (by omega) (by have := HOL.out; omega))
          obtain ⟨A', c', rfl, hby, hfr⟩ := HN.out.byt
          clear hE hpc hby hfr hz h127 hk2 hc0
          go_wp2_with (first
            | (go_at_call 113; refine HNX2.out.mono ?_; (rintro e w2 ⟨rfl, hx2, ho2⟩); have HN2 := Lib.hid (HN.out.moved hx2 ho2); clear hx2 ho2; have k0 := HN2.out.lx.k0; have t3 := HN2.out.b1.c3)
            | (at_builtin; obtain ⟨v6, w6, hrun, hs6, hf6, hk6, A6, c6, rfl⟩ := HNR.out _ _ HN2.out; refine Lib.wpList_append_run_sl _ rfl (.tmp 41) (.tmp 44) 23 rfl _ _ rfl rfl hrun ?_; clear hrun; have HN6 := Lib.hid hs6; clear hs6; have t3 := HN6.out.b1.c3; have r0 := HN6.out.b0.c0; have r1 := HN6.out.b0.c1; have r2 := HN6.out.b0.c2; have r3 := HN6.out.b0.c3; have rf := HN6.out.b0.fr))
          refine bodyPost_ret (results_cell_row_tmp rfl _ _ w.heap.size 56 _ (0, 0) _ rfl HN6.out.b0.set4_ Try.underlying56 rfl (by kernel_rfl) _ rfl) rfl ?_
          have hl := HLT.out
          rw [HE.out]
          exact ⟨_, _, _, _, _, _, _, rfl, HN6.out.lx.set4_ (by omega) (by omega), HN6.out.ol.set4_ (Nat.le_refl _), fun h0 => absurd (show (3 : Int) = 0 from h0) (by decide)⟩
        · have hzb : (k2 == 0) = false := beq_eq_false_iff_ne.2 hz
          have HZ := Lib.hid hz
          have HF2 := Lib.hid hF
          have H127 := Lib.hid h127
          have hbig : decide ((out.length : Int) + 1 > 32767) = false := decide_eq_false (by omega)
          have hbig2 : decide (32767 < (out.length : Int) + 1) = false := decide_eq_false (by omega)
          have HNR := Lib.hid (fun W qq (hW : NS w W h g A n c qq 3 v out) => hW.room 40 (by omega) (by have := HOL.out; omega))
          obtain ⟨A', c', rfl, hby, hfr⟩ := HN.out.byt
          clear hF hpc hby hfr hz h127 hk2 hc0
          go_wp2_with (first
            | (go_at_call 113; refine HNX2.out.mono ?_; (rintro e w2 ⟨rfl, hx2, ho2⟩); have HN2 := Lib.hid (HN.out.moved hx2 ho2); clear hx2 ho2; have k0 := HN2.out.lx.k0; have t3 := HN2.out.b1.c3)
            | (at_builtin; obtain ⟨v6, w6, hrun, hs6, hf6, hk6, A6, c6, rfl⟩ := HNR.out _ _ HN2.out; refine Lib.wpList_append_run_sl _ rfl (.tmp 41) (.tmp 44) 23 rfl _ _ rfl rfl hrun ?_; clear hrun; have HN6 := Lib.hid hs6; clear hs6; have t3 := HN6.out.b1.c3; have r0 := HN6.out.b0.c0; have r1 := HN6.out.b0.c1; have r2 := HN6.out.b0.c2; have r3 := HN6.out.b0.c3; have rf := HN6.out.b0.fr))
          go_roundg f
          case rel => exact ⟨_, k2, _, _, rfl, HN6, HF2, Lib.hid (by have h1 := HG.out; have h2 := HQQ.out; omega), Lib.hid (by rw [List.length_append]; have := H127.out; simp; omega), Lib.hid (by have h1 := HK.out; have h2 := HQQ.out; have h3 := HK2.out; have h4 := HZ.out; omega)⟩
          case measure => omega
      · have hpc : pcZ zs q = (41, q + 1, -1) := by simp [pcZ, hy]
        obtain ⟨k2, hk2⟩ : ∃ k2, k + -1 = k2 := ⟨_, rfl⟩
        have HK2 := Lib.hid (show k2 = k - 1 by omega)
        have wk : IntKind.i64.wrap (k - 1) = k2 := by rw [show k - 1 = k2 by omega]; exact IntWalk.i64_in _ (by have := HN.out.lx.pl; omega)
        have HQQ := Lib.hid (show q < q + 1 by omega)
        rcases text_step zs f q k k2 out R 41 _ (-1) HF.out HQ.out hpc hk2 with ⟨hz, hE⟩ | ⟨hz, hc0, hF⟩ | ⟨hz, hc0, h127, hE⟩ | ⟨hz, hc0, h127, hF⟩
        · have HE := Lib.hid hE
          have hzb : (k2 == 0) = true := beq_iff_eq.2 hz
          obtain ⟨A', c', rfl, hby, hfr⟩ := HN.out.byt
          clear hE hpc hby hfr hz hk2
          go_wp2_with (first
            | (go_at_call 113; refine HNX2.out.mono ?_; (rintro e w2 ⟨rfl, hx2, ho2⟩); have HN2 := Lib.hid (HN.out.moved hx2 ho2); clear hx2 ho2; have k0 := HN2.out.lx.k0; have t0 := HN2.out.b1.c0; have t1 := HN2.out.b1.c1; have t2 := HN2.out.b1.c2; have t3 := HN2.out.b1.c3; have r0 := HN2.out.b0.c0; have r1 := HN2.out.b0.c1; have r2 := HN2.out.b0.c2; have r3 := HN2.out.b0.c3; have rf := HN2.out.b0.fr))
          obtain ⟨A9, c9, he9, hby, hfr⟩ := HN2.out.byt
          injection he9 with e1 e2 e3
          subst e1 e3
          refine bodyPost_ret (results_cell_row_tmp rfl _ _ w.heap.size 56 _ (0, 0) _ rfl HN2.out.b0.set4_ Try.underlying56 rfl (by kernel_rfl) _ rfl) rfl ?_
          have hl := HLT.out
          rw [HE.out]
          exact ⟨_, _, _, _, _, _, _, rfl, HN2.out.lx.set4_ (by omega) (by omega), HN2.out.ol.set4_ (Nat.le_refl _), fun _ => ⟨rfl, rfl, rfl, by rw [size_set4]; exact hby.set4_ hfr (by omega), fun h0 b o e => by have := hfr h0 b o e; omega⟩⟩
        · omega
        · have hzb : (k2 == 0) = false := beq_eq_false_iff_ne.2 hz
          have HZ := Lib.hid hz
          have HE := Lib.hid hE
          have hbig : ((out.length : Int) + 1 > 32767) := by omega
          have hbig2 : ((out.length + 1 : Nat) : Int) > 32767 := by omega
          have HNR := Lib.hid (fun W qq (hW : NS w W h g A n c qq 3 v out) => hW.room 41 (by omega) (by have := HOL.out; omega))
          obtain ⟨A', c', rfl, hby, hfr⟩ := HN.out.byt
          clear hE hpc hby hfr hz h127 hk2 hc0
          go_wp2_with (first
            | (go_at_call 113; refine HNX2.out.mono ?_; (rintro e w2 ⟨rfl, hx2, ho2⟩); have HN2 := Lib.hid (HN.out.moved hx2 ho2); clear hx2 ho2; have k0 := HN2.out.lx.k0; have t3 := HN2.out.b1.c3)
            | (at_builtin; obtain ⟨v6, w6, hrun, hs6, hf6, hk6, A6, c6, rfl⟩ := HNR.out _ _ HN2.out; refine Lib.wpList_append_run_sl _ rfl (.tmp 41) (.tmp 44) 23 rfl _ _ rfl rfl hrun ?_; clear hrun; have HN6 := Lib.hid hs6; clear hs6; have t3 := HN6.out.b1.c3; have r0 := HN6.out.b0.c0; have r1 := HN6.out.b0.c1; have r2 := HN6.out.b0.c2; have r3 := HN6.out.b0.c3; have rf := HN6.out.b0.fr))
          refine bodyPost_ret (results_cell_row_tmp rfl _ _ w.heap.size 56 _ (0, 0) _ rfl HN6.out.b0.set4_ Try.underlying56 rfl (by kernel_rfl) _ rfl) rfl ?_
          have hl := HLT.out
          rw [HE.out]
          exact ⟨_, _, _, _, _, _, _, rfl, HN6.out.lx.set4_ (by omega) (by omega), HN6.out.ol.set4_ (Nat.le_refl _), fun h0 => absurd (show (3 : Int) = 0 from h0) (by decide)⟩
        · have hzb : (k2 == 0) = false := beq_eq_false_iff_ne.2 hz
          have HZ := Lib.hid hz
          have HF2 := Lib.hid hF
          have H127 := Lib.hid h127
          have hbig : decide ((out.length : Int) + 1 > 32767) = false := decide_eq_false (by omega)
          have hbig2 : decide (32767 < (out.length : Int) + 1) = false := decide_eq_false (by omega)
          have HNR := Lib.hid (fun W qq (hW : NS w W h g A n c qq 3 v out) => hW.room 41 (by omega) (by have := HOL.out; omega))
          obtain ⟨A', c', rfl, hby, hfr⟩ := HN.out.byt
          clear hF hpc hby hfr hz h127 hk2 hc0
          go_wp2_with (first
            | (go_at_call 113; refine HNX2.out.mono ?_; (rintro e w2 ⟨rfl, hx2, ho2⟩); have HN2 := Lib.hid (HN.out.moved hx2 ho2); clear hx2 ho2; have k0 := HN2.out.lx.k0; have t3 := HN2.out.b1.c3)
            | (at_builtin; obtain ⟨v6, w6, hrun, hs6, hf6, hk6, A6, c6, rfl⟩ := HNR.out _ _ HN2.out; refine Lib.wpList_append_run_sl _ rfl (.tmp 41) (.tmp 44) 23 rfl _ _ rfl rfl hrun ?_; clear hrun; have HN6 := Lib.hid hs6; clear hs6; have t3 := HN6.out.b1.c3; have r0 := HN6.out.b0.c0; have r1 := HN6.out.b0.c1; have r2 := HN6.out.b0.c2; have r3 := HN6.out.b0.c3; have rf := HN6.out.b0.fr))
          go_roundg f
          case rel => exact ⟨_, k2, _, _, rfl, HN6, HF2, Lib.hid (by have h1 := HG.out; have h2 := HQQ.out; omega), Lib.hid (by rw [List.length_append]; have := H127.out; simp; omega), Lib.hid (by have h1 := HK.out; have h2 := HQQ.out; have h3 := HK2.out; have h4 := HZ.out; omega)⟩
          case measure => omega
      · have hpc : pcZ zs q = (10, if peekZ zs ((q + 1 : Nat) : Int) = 10 then q + 2 else q + 1, 0) := by simp [pcZ, hy]
        have hk2 : k + 0 = k := by omega
        have HK2 := Lib.hid (show k = k from rfl)
        have HCL := Lib.hid (fun W hW ho => HLI.out W (q + 1) 13 hW ho)
        have eQ : (q + 1 + if peekZ zs ((q + 1 : Nat) : Int) = 10 then 1 else 0) = if peekZ zs ((q + 1 : Nat) : Int) = 10 then q + 2 else q + 1 := by split <;> omega
        simp only [if_true, eQ] at HCL
        have HQQ := Lib.hid (show q < if peekZ zs ((q + 1 : Nat) : Int) = 10 then q + 2 else q + 1 by split <;> omega)
        obtain ⟨qq, hqq⟩ : ∃ qq, (if peekZ zs ((q + 1 : Nat) : Int) = 10 then q + 2 else q + 1) = qq := ⟨_, rfl⟩
        rw [hqq] at HCL HQQ hpc
        clear eQ hqq
        rcases text_step zs f q k k out R 10 _ 0 HF.out HQ.out hpc hk2 with ⟨hz, hE⟩ | ⟨hz, hc0, hF⟩ | ⟨hz, hc0, h127, hE⟩ | ⟨hz, hc0, h127, hF⟩
        · omega
        · omega
        · have hzb : (k == 0) = false := beq_eq_false_iff_ne.2 hz
          have HZ := Lib.hid hz
          have HE := Lib.hid hE
          have hbig : ((out.length : Int) + 1 > 32767) := by omega
          have hbig2 : ((out.length + 1 : Nat) : Int) > 32767 := by omega
          have HNR := Lib.hid (fun W qq (hW : NS w W h g A n c qq 3 v out) => hW.room 10 (by omega) (by have := HOL.out; omega))
          obtain ⟨A', c', rfl, hby, hfr⟩ := HN.out.byt
          clear hE hpc hby hfr hz h127 hk2 hc0
          go_wp2_with (first
            | (go_at_call 113; refine HNX2.out.mono ?_; (rintro e w2 ⟨rfl, hx2, ho2⟩); have HN2 := Lib.hid (HN.out.moved hx2 ho2); clear hx2 ho2; have k0 := HN2.out.lx.k0)
            | (go_at_call 114; refine (HCL.out _ HN2.out.lx HN2.out.ol).mono ?_; (rintro e w3 ⟨rfl, hx3, ho3⟩); have HN3 := Lib.hid (HN2.out.moved hx3 ho3); clear hx3 ho3; have t3 := HN3.out.b1.c3)
            | (at_builtin; obtain ⟨v6, w6, hrun, hs6, hf6, hk6, A6, c6, rfl⟩ := HNR.out _ _ HN3.out; refine Lib.wpList_append_run_sl _ rfl (.tmp 41) (.tmp 44) 23 rfl _ _ rfl rfl hrun ?_; clear hrun; have HN6 := Lib.hid hs6; clear hs6; have t3 := HN6.out.b1.c3; have r0 := HN6.out.b0.c0; have r1 := HN6.out.b0.c1; have r2 := HN6.out.b0.c2; have r3 := HN6.out.b0.c3; have rf := HN6.out.b0.fr))
          refine bodyPost_ret (results_cell_row_tmp rfl _ _ w.heap.size 56 _ (0, 0) _ rfl HN6.out.b0.set4_ Try.underlying56 rfl (by kernel_rfl) _ rfl) rfl ?_
          have hl := HLT.out
          rw [HE.out]
          exact ⟨_, _, _, _, _, _, _, rfl, HN6.out.lx.set4_ (by omega) (by omega), HN6.out.ol.set4_ (Nat.le_refl _), fun h0 => absurd (show (3 : Int) = 0 from h0) (by decide)⟩
        · have hzb : (k == 0) = false := beq_eq_false_iff_ne.2 hz
          have HZ := Lib.hid hz
          have HF2 := Lib.hid hF
          have H127 := Lib.hid h127
          have hbig : decide ((out.length : Int) + 1 > 32767) = false := decide_eq_false (by omega)
          have hbig2 : decide (32767 < (out.length : Int) + 1) = false := decide_eq_false (by omega)
          have HNR := Lib.hid (fun W qq (hW : NS w W h g A n c qq 3 v out) => hW.room 10 (by omega) (by have := HOL.out; omega))
          obtain ⟨A', c', rfl, hby, hfr⟩ := HN.out.byt
          clear hF hpc hby hfr hz h127 hk2 hc0
          go_wp2_with (first
            | (go_at_call 113; refine HNX2.out.mono ?_; (rintro e w2 ⟨rfl, hx2, ho2⟩); have HN2 := Lib.hid (HN.out.moved hx2 ho2); clear hx2 ho2; have k0 := HN2.out.lx.k0)
            | (go_at_call 114; refine (HCL.out _ HN2.out.lx HN2.out.ol).mono ?_; (rintro e w3 ⟨rfl, hx3, ho3⟩); have HN3 := Lib.hid (HN2.out.moved hx3 ho3); clear hx3 ho3; have t3 := HN3.out.b1.c3)
            | (at_builtin; obtain ⟨v6, w6, hrun, hs6, hf6, hk6, A6, c6, rfl⟩ := HNR.out _ _ HN3.out; refine Lib.wpList_append_run_sl _ rfl (.tmp 41) (.tmp 44) 23 rfl _ _ rfl rfl hrun ?_; clear hrun; have HN6 := Lib.hid hs6; clear hs6; have t3 := HN6.out.b1.c3; have r0 := HN6.out.b0.c0; have r1 := HN6.out.b0.c1; have r2 := HN6.out.b0.c2; have r3 := HN6.out.b0.c3; have rf := HN6.out.b0.fr))
          go_roundg f
          case rel => exact ⟨_, k, _, _, rfl, HN6, HF2, Lib.hid (by have h1 := HG.out; have h2 := HQQ.out; omega), Lib.hid (by rw [List.length_append]; have := H127.out; simp; omega), Lib.hid (by have h1 := HK.out; have h2 := HQQ.out; have h3 := HK2.out; have h4 := HZ.out; omega)⟩
          case measure => omega
      · have hpc : pcZ zs q = (10, q + 1, 0) := by simp [pcZ, hy]
        have hk2 : k + 0 = k := by omega
        have HK2 := Lib.hid (show k = k from rfl)
        have HCL := Lib.hid (fun W hW ho => HLI.out W (q + 1) 10 hW ho)
        rw [show (if (10 : Int) = 13 then (q + 1 + if peekZ zs ((q + 1 : Nat) : Int) = 10 then 1 else 0) else q + 1) = q + 1 from rfl] at HCL
        have HQQ := Lib.hid (show q < q + 1 by omega)
        rcases text_step zs f q k k out R 10 _ 0 HF.out HQ.out hpc hk2 with ⟨hz, hE⟩ | ⟨hz, hc0, hF⟩ | ⟨hz, hc0, h127, hE⟩ | ⟨hz, hc0, h127, hF⟩
        · omega
        · omega
        · have hzb : (k == 0) = false := beq_eq_false_iff_ne.2 hz
          have HZ := Lib.hid hz
          have HE := Lib.hid hE
          have hbig : ((out.length : Int) + 1 > 32767) := by omega
          have hbig2 : ((out.length + 1 : Nat) : Int) > 32767 := by omega
          have HNR := Lib.hid (fun W qq (hW : NS w W h g A n c qq 3 v out) => hW.room 10 (by omega) (by have := HOL.out; omega))
          obtain ⟨A', c', rfl, hby, hfr⟩ := HN.out.byt
          clear hE hpc hby hfr hz h127 hk2 hc0
          go_wp2_with (first
            | (go_at_call 113; refine HNX2.out.mono ?_; (rintro e w2 ⟨rfl, hx2, ho2⟩); have HN2 := Lib.hid (HN.out.moved hx2 ho2); clear hx2 ho2; have k0 := HN2.out.lx.k0)
            | (go_at_call 114; refine (HCL.out _ HN2.out.lx HN2.out.ol).mono ?_; (rintro e w3 ⟨rfl, hx3, ho3⟩); have HN3 := Lib.hid (HN2.out.moved hx3 ho3); clear hx3 ho3; have t3 := HN3.out.b1.c3)
            | (at_builtin; obtain ⟨v6, w6, hrun, hs6, hf6, hk6, A6, c6, rfl⟩ := HNR.out _ _ HN3.out; refine Lib.wpList_append_run_sl _ rfl (.tmp 41) (.tmp 44) 23 rfl _ _ rfl rfl hrun ?_; clear hrun; have HN6 := Lib.hid hs6; clear hs6; have t3 := HN6.out.b1.c3; have r0 := HN6.out.b0.c0; have r1 := HN6.out.b0.c1; have r2 := HN6.out.b0.c2; have r3 := HN6.out.b0.c3; have rf := HN6.out.b0.fr))
          refine bodyPost_ret (results_cell_row_tmp rfl _ _ w.heap.size 56 _ (0, 0) _ rfl HN6.out.b0.set4_ Try.underlying56 rfl (by kernel_rfl) _ rfl) rfl ?_
          have hl := HLT.out
          rw [HE.out]
          exact ⟨_, _, _, _, _, _, _, rfl, HN6.out.lx.set4_ (by omega) (by omega), HN6.out.ol.set4_ (Nat.le_refl _), fun h0 => absurd (show (3 : Int) = 0 from h0) (by decide)⟩
        · have hzb : (k == 0) = false := beq_eq_false_iff_ne.2 hz
          have HZ := Lib.hid hz
          have HF2 := Lib.hid hF
          have H127 := Lib.hid h127
          have hbig : decide ((out.length : Int) + 1 > 32767) = false := decide_eq_false (by omega)
          have hbig2 : decide (32767 < (out.length : Int) + 1) = false := decide_eq_false (by omega)
          have HNR := Lib.hid (fun W qq (hW : NS w W h g A n c qq 3 v out) => hW.room 10 (by omega) (by have := HOL.out; omega))
          obtain ⟨A', c', rfl, hby, hfr⟩ := HN.out.byt
          clear hF hpc hby hfr hz h127 hk2 hc0
          go_wp2_with (first
            | (go_at_call 113; refine HNX2.out.mono ?_; (rintro e w2 ⟨rfl, hx2, ho2⟩); have HN2 := Lib.hid (HN.out.moved hx2 ho2); clear hx2 ho2; have k0 := HN2.out.lx.k0)
            | (go_at_call 114; refine (HCL.out _ HN2.out.lx HN2.out.ol).mono ?_; (rintro e w3 ⟨rfl, hx3, ho3⟩); have HN3 := Lib.hid (HN2.out.moved hx3 ho3); clear hx3 ho3; have t3 := HN3.out.b1.c3)
            | (at_builtin; obtain ⟨v6, w6, hrun, hs6, hf6, hk6, A6, c6, rfl⟩ := HNR.out _ _ HN3.out; refine Lib.wpList_append_run_sl _ rfl (.tmp 41) (.tmp 44) 23 rfl _ _ rfl rfl hrun ?_; clear hrun; have HN6 := Lib.hid hs6; clear hs6; have t3 := HN6.out.b1.c3; have r0 := HN6.out.b0.c0; have r1 := HN6.out.b0.c1; have r2 := HN6.out.b0.c2; have r3 := HN6.out.b0.c3; have rf := HN6.out.b0.fr))
          go_roundg f
          case rel => exact ⟨_, k, _, _, rfl, HN6, HF2, Lib.hid (by have h1 := HG.out; have h2 := HQQ.out; omega), Lib.hid (by rw [List.length_append]; have := H127.out; simp; omega), Lib.hid (by have h1 := HK.out; have h2 := HQQ.out; have h3 := HK2.out; have h4 := HZ.out; omega)⟩
          case measure => omega
      · have hpc : pcZ zs q = ((escE zs n (q + 1)).1, (escE zs n (q + 1)).2, 0) := by
          have := HL.out
          by_cases h1 : q + 1 < n
          · rw [escE, if_pos h1, pcZ, if_pos hy, if_neg (by omega)]
          · rw [escE, if_neg h1, pcZ, if_pos hy, if_pos (by omega)]
        have HX1 : Hid (-1 ≤ (escE zs n (q + 1)).1 ∧ (escE zs n (q + 1)).1 < 256) := Lib.hid (by
          have := HL.out
          by_cases h1 : q + 1 < n
          · rw [escE, if_pos h1]
            have h2 := esc_bd zs HB.out.rng (q + 1) (by omega)
            exact ⟨h2.1, h2.2.1⟩
          · rw [escE, if_neg h1]
            exact ⟨by show (-1 : Int) ≤ -1; omega, by show (-1 : Int) < 256; omega⟩)
        have HQQ : Hid (q < (escE zs n (q + 1)).2) := Lib.hid (by
          have := HL.out
          by_cases h1 : q + 1 < n
          · rw [escE, if_pos h1]
            have h2 := esc_bd zs HB.out.rng (q + 1) (by omega)
            omega
          · rw [escE, if_neg h1]
            show q < q + 1
            omega)
        have hk2 : k + 0 = k := by omega
        have HK2 := Lib.hid (show k = k from rfl)
        have HCL := Lib.hid (fun W hW ho => HES.out W (q + 1) hW ho)
        obtain ⟨⟨x1, qq⟩, hX⟩ : ∃ X, escE zs n (q + 1) = X := ⟨_, rfl⟩
        rw [hX] at hpc HX1 HQQ HCL
        dsimp only at hpc
        clear hX
        rcases text_step zs f q k k out R x1 _ 0 HF.out HQ.out hpc hk2 with ⟨hz, hE⟩ | ⟨hz, hc0, hF⟩ | ⟨hz, hc0, h127, hE⟩ | ⟨hz, hc0, h127, hF⟩
        · omega
        · have HF2 := Lib.hid hF
          have hzb : (k == 0) = false := beq_eq_false_iff_ne.2 hz
          have hcb : decide (x1 < 0) = true := decide_eq_true hc0
          clear hF hpc hz hk2
          go_wp2_with (first
            | (go_at_call 113; refine HNX2.out.mono ?_; (rintro e w2 ⟨rfl, hx2, ho2⟩); have HN2 := Lib.hid (HN.out.moved hx2 ho2); clear hx2 ho2; have k0 := HN2.out.lx.k0)
            | (go_at_call 115; refine (HCL.out _ HN2.out.lx HN2.out.ol).mono ?_; (rintro e w3 ⟨rfl, hx3, ho3⟩); have HN3 := Lib.hid (HN2.out.moved hx3 ho3); clear hx3 ho3))
          go_roundg f
          case rel => exact ⟨_, k, v, out, rfl, HN3, HF2, Lib.hid (by have h1 := HG.out; have h2 := HQQ.out; omega), HOL, Lib.hid (by have h1 := HK.out; have h2 := HQQ.out; have h3 := HK2.out; omega)⟩
          case measure => omega
        · have hzb : (k == 0) = false := beq_eq_false_iff_ne.2 hz
          have HZ := Lib.hid hz
          have HE := Lib.hid hE
          have hbig : ((out.length : Int) + 1 > 32767) := by omega
          have hbig2 : ((out.length + 1 : Nat) : Int) > 32767 := by omega
          have hcb : decide (x1 < 0) = false := decide_eq_false (by omega)
          have wV : IntKind.u8.wrap x1 = x1 := IntWalk.u8_in _ (by have := HX1.out; omega)
          have HNR := Lib.hid (fun W qq (hW : NS w W h g A n c qq 3 v out) => hW.room x1 (by have := HX1.out; omega) (by have := HOL.out; omega))
          obtain ⟨A', c', rfl, hby, hfr⟩ := HN.out.byt
          clear hE hpc hby hfr hz h127 hk2 hc0
          go_wp2_with (first
            | (go_at_call 113; refine HNX2.out.mono ?_; (rintro e w2 ⟨rfl, hx2, ho2⟩); have HN2 := Lib.hid (HN.out.moved hx2 ho2); clear hx2 ho2; have k0 := HN2.out.lx.k0)
            | (go_at_call 115; refine (HCL.out _ HN2.out.lx HN2.out.ol).mono ?_; (rintro e w3 ⟨rfl, hx3, ho3⟩); have HN3 := Lib.hid (HN2.out.moved hx3 ho3); clear hx3 ho3; have t3 := HN3.out.b1.c3)
            | (at_builtin; obtain ⟨v6, w6, hrun, hs6, hf6, hk6, A6, c6, rfl⟩ := HNR.out _ _ HN3.out; refine Lib.wpList_append_run_sl _ rfl (.tmp 41) (.tmp 44) 23 rfl _ _ rfl rfl hrun ?_; clear hrun; have HN6 := Lib.hid hs6; clear hs6; have t3 := HN6.out.b1.c3; have r0 := HN6.out.b0.c0; have r1 := HN6.out.b0.c1; have r2 := HN6.out.b0.c2; have r3 := HN6.out.b0.c3; have rf := HN6.out.b0.fr))
          refine bodyPost_ret (results_cell_row_tmp rfl _ _ w.heap.size 56 _ (0, 0) _ rfl HN6.out.b0.set4_ Try.underlying56 rfl (by kernel_rfl) _ rfl) rfl ?_
          have hl := HLT.out
          rw [HE.out]
          exact ⟨_, _, _, _, _, _, _, rfl, HN6.out.lx.set4_ (by omega) (by omega), HN6.out.ol.set4_ (Nat.le_refl _), fun h0 => absurd (show (3 : Int) = 0 from h0) (by decide)⟩
        · have hzb : (k == 0) = false := beq_eq_false_iff_ne.2 hz
          have HZ := Lib.hid hz
          have HF2 := Lib.hid hF
          have H127 := Lib.hid h127
          have hbig : decide ((out.length : Int) + 1 > 32767) = false := decide_eq_false (by omega)
          have hbig2 : decide (32767 < (out.length : Int) + 1) = false := decide_eq_false (by omega)
          have hcb : decide (x1 < 0) = false := decide_eq_false (by omega)
          have wV : IntKind.u8.wrap x1 = x1 := IntWalk.u8_in _ (by have := HX1.out; omega)
          have HNR := Lib.hid (fun W qq (hW : NS w W h g A n c qq 3 v out) => hW.room x1 (by have := HX1.out; omega) (by have := HOL.out; omega))
          obtain ⟨A', c', rfl, hby, hfr⟩ := HN.out.byt
          clear hF hpc hby hfr hz h127 hk2 hc0
          go_wp2_with (first
            | (go_at_call 113; refine HNX2.out.mono ?_; (rintro e w2 ⟨rfl, hx2, ho2⟩); have HN2 := Lib.hid (HN.out.moved hx2 ho2); clear hx2 ho2; have k0 := HN2.out.lx.k0)
            | (go_at_call 115; refine (HCL.out _ HN2.out.lx HN2.out.ol).mono ?_; (rintro e w3 ⟨rfl, hx3, ho3⟩); have HN3 := Lib.hid (HN2.out.moved hx3 ho3); clear hx3 ho3; have t3 := HN3.out.b1.c3)
            | (at_builtin; obtain ⟨v6, w6, hrun, hs6, hf6, hk6, A6, c6, rfl⟩ := HNR.out _ _ HN3.out; refine Lib.wpList_append_run_sl _ rfl (.tmp 41) (.tmp 44) 23 rfl _ _ rfl rfl hrun ?_; clear hrun; have HN6 := Lib.hid hs6; clear hs6; have t3 := HN6.out.b1.c3; have r0 := HN6.out.b0.c0; have r1 := HN6.out.b0.c1; have r2 := HN6.out.b0.c2; have r3 := HN6.out.b0.c3; have rf := HN6.out.b0.fr))
          go_roundg f
          case rel => exact ⟨_, k, _, _, rfl, HN6, HF2, Lib.hid (by have h1 := HG.out; have h2 := HQQ.out; omega), Lib.hid (by rw [List.length_append]; have := H127.out; simp; omega), Lib.hid (by have h1 := HK.out; have h2 := HQQ.out; have h3 := HK2.out; have h4 := HZ.out; omega)⟩
          case measure => omega
      · obtain ⟨a1, a2, a3, a4, a5⟩ := hy1
        have hpc : pcZ zs q = (y, q + 1, 0) := by simp [pcZ, hy, a1, a2, a3, a5]
        have hk2 : k + 0 = k := by omega
        have HK2 := Lib.hid (show k = k from rfl)
        have b0 : (y == -1) = false := beq_eq_false_iff_ne.2 (by omega)
        have b1 : (y == 40) = false := beq_eq_false_iff_ne.2 a1
        have b2 : (y == 41) = false := beq_eq_false_iff_ne.2 a2
        have b3 : (y == 13) = false := beq_eq_false_iff_ne.2 a3
        have b4 : (y == 10) = false := beq_eq_false_iff_ne.2 a4
        have b5 : (y == 92) = false := beq_eq_false_iff_ne.2 a5
        have HQQ := Lib.hid (show q < q + 1 by omega)
        clear a1 a2 a3 a4 a5
        rcases text_step zs f q k k out R y _ 0 HF.out HQ.out hpc hk2 with ⟨hz, hE⟩ | ⟨hz, hc0, hF⟩ | ⟨hz, hc0, h127, hE⟩ | ⟨hz, hc0, h127, hF⟩
        · omega
        · omega
        · have hzb : (k == 0) = false := beq_eq_false_iff_ne.2 hz
          have HZ := Lib.hid hz
          have HE := Lib.hid hE
          have hbig : ((out.length : Int) + 1 > 32767) := by omega
          have hbig2 : ((out.length + 1 : Nat) : Int) > 32767 := by omega
          have hcb : decide (y < 0) = false := decide_eq_false (by omega)
          have wV : IntKind.u8.wrap y = y := IntWalk.u8_in _ (by omega)
          have HNR := Lib.hid (fun W qq (hW : NS w W h g A n c qq 3 v out) => hW.room y (by omega) (by have := HOL.out; omega))
          obtain ⟨A', c', rfl, hby, hfr⟩ := HN.out.byt
          clear hE hpc hby hfr hz h127 hk2 hc0
          go_wp2_with (first
            | (go_at_call 113; refine HNX2.out.mono ?_; (rintro e w2 ⟨rfl, hx2, ho2⟩); have HN2 := Lib.hid (HN.out.moved hx2 ho2); clear hx2 ho2; have k0 := HN2.out.lx.k0; have t3 := HN2.out.b1.c3)
            | (at_builtin; obtain ⟨v6, w6, hrun, hs6, hf6, hk6, A6, c6, rfl⟩ := HNR.out _ _ HN2.out; refine Lib.wpList_append_run_sl _ rfl (.tmp 41) (.tmp 44) 23 rfl _ _ rfl rfl hrun ?_; clear hrun; have HN6 := Lib.hid hs6; clear hs6; have t3 := HN6.out.b1.c3; have r0 := HN6.out.b0.c0; have r1 := HN6.out.b0.c1; have r2 := HN6.out.b0.c2; have r3 := HN6.out.b0.c3; have rf := HN6.out.b0.fr))
          refine bodyPost_ret (results_cell_row_tmp rfl _ _ w.heap.size 56 _ (0, 0) _ rfl HN6.out.b0.set4_ Try.underlying56 rfl (by kernel_rfl) _ rfl) rfl ?_
          have hl := HLT.out
          rw [HE.out]
          exact ⟨_, _, _, _, _, _, _, rfl, HN6.out.lx.set4_ (by omega) (by omega), HN6.out.ol.set4_ (Nat.le_refl _), fun h0 => absurd (show (3 : Int) = 0 from h0) (by decide)⟩
        · have hzb : (k == 0) = false := beq_eq_false_iff_ne.2 hz
          have HZ := Lib.hid hz
          have HF2 := Lib.hid hF
          have H127 := Lib.hid h127
          have hbig : decide ((out.length : Int) + 1 > 32767) = false := decide_eq_false (by omega)
          have hbig2 : decide (32767 < (out.length : Int) + 1) = false := decide_eq_false (by omega)
          have hcb : decide (y < 0) = false := decide_eq_false (by omega)
          have wV : IntKind.u8.wrap y = y := IntWalk.u8_in _ (by omega)
          have HNR := Lib.hid (fun W qq (hW : NS w W h g A n c qq 3 v out) => hW.room y (by omega) (by have := HOL.out; omega))
          obtain ⟨A', c', rfl, hby, hfr⟩ := HN.out.byt
          clear hF hpc hby hfr hz h127 hk2 hc0
          go_wp2_with (first
            | (go_at_call 113; refine HNX2.out.mono ?_; (rintro e w2 ⟨rfl, hx2, ho2⟩); have HN2 := Lib.hid (HN.out.moved hx2 ho2); clear hx2 ho2; have k0 := HN2.out.lx.k0; have t3 := HN2.out.b1.c3)
            | (at_builtin; obtain ⟨v6, w6, hrun, hs6, hf6, hk6, A6, c6, rfl⟩ := HNR.out _ _ HN2.out; refine Lib.wpList_append_run_sl _ rfl (.tmp 41) (.tmp 44) 23 rfl _ _ rfl rfl hrun ?_; clear hrun; have HN6 := Lib.hid hs6; clear hs6; have t3 := HN6.out.b1.c3; have r0 := HN6.out.b0.c0; have r1 := HN6.out.b0.c1; have r2 := HN6.out.b0.c2; have r3 := HN6.out.b0.c3; have rf := HN6.out.b0.fr))
          go_roundg f
          case rel => exact ⟨_, k, _, _, rfl, HN6, HF2, Lib.hid (by have h1 := HG.out; have h2 := HQQ.out; omega), Lib.hid (by rw [List.length_append]; have := H127.out; simp; omega), Lib.hid (by have h1 := HK.out; have h2 := HQQ.out; have h3 := HK2.out; have h4 := HZ.out; omega)⟩
          case measure => omega
end

section
open Go.RowKit
set_option linter.unusedVariables false
set_option maxRecDepth 100000
theorem ppairedC (c : Int) (w : World) : Calls Try.prog 116 #[.int .i64 c] w fun e w' => e = .returned (.bool (prB c)) ∧ w = w' := by
  have HWH := Lib.hid (fun W => pwhite c W)
  have HD := Lib.hid (fun W => pdigit c W)
  unfold prB
  obtain ⟨d, hd⟩ : ∃ d, dgZ c = d := ⟨_, rfl⟩
  rw [hd] at HD ⊢
  clear hd
  by_cases h1 : 0 ≤ d
  · rw [decide_eq_true h1]
    go_enter Try.func116, Try.ntmps116
    go_wp2_with (go_at_call 128; refine (HD.out _).mono ?_; (rintro e w7 ⟨rfl, rfl⟩))
    go_ret
    exact ⟨rfl, rfl⟩
  · have e2 : decide (0 ≤ d) = false := decide_eq_false h1
    rw [e2]
    go_enter Try.func116, Try.ntmps116
    go_wp2_with (first
      | (go_at_call 128; refine (HD.out _).mono ?_; (rintro e w7 ⟨rfl, rfl⟩))
      | (go_at_call 86; refine (HWH.out _).mono ?_; (rintro e w7 ⟨rfl, rfl⟩); dsimp only))
    go_ret
    exact ⟨rfl, rfl⟩
theorem pairedF : KindF 116 prB := ⟨by decide, fun x W => ppairedC x W, fun _ _ => by kernel_rfl⟩
theorem unhx_row (M : Nat) : ∀ (l : List Int) (h : Int) (o : List Int), (unhxR M l h o).2 = 0 → rowZ prB l < l.length
  | [], _, _, h0 => by rw [unhxR] at h0; exact absurd (show (2 : Int) = 0 from h0) (by decide)
  | c :: cs, h, o, h0 => by
    rw [unhxR] at h0
    rw [rowZ]
    by_cases hw : whB c = true
    · rw [if_pos hw] at h0
      have := unhx_row M cs h o h0
      rw [if_pos (by unfold prB; rw [hw, Bool.or_true])]
      simp; omega
    · rw [if_neg hw] at h0
      by_cases h62 : c = 62
      · rw [if_neg (by subst h62; decide)]
        simp
      · rw [if_neg h62] at h0
        by_cases hd : dgZ c < 0
        · rw [if_pos hd] at h0
          exact absurd (show (4 : Int) = 0 from h0) (by decide)
        · rw [if_neg hd] at h0
          rw [if_pos (by unfold prB; rw [decide_eq_true (by omega), Bool.true_or])]
          by_cases hh : h < 0
          · rw [if_pos hh] at h0
            have := unhx_row M cs _ o h0
            simp; omega
          · rw [if_neg hh] at h0
            by_cases hM : M ≤ o.length
            · rw [if_pos hM] at h0
              exact absurd (show (7 : Int) = 0 from h0) (by decide)
            · rw [if_neg hM] at h0
              have := unhx_row M cs _ _ h0
              simp; omega
theorem unhx_cut (M : Nat) : ∀ (l : List Int) (h : Int) (o : List Int), unhxR M (l.take (rowZ prB l + 1)) h o = unhxR M l h o
  | [], _, _ => rfl
  | c :: cs, h, o => by
    rw [List.take_succ_cons, unhxR, unhxR]
    by_cases hw : whB c = true
    · rw [if_pos hw, if_pos hw, rowZ, if_pos (by unfold prB; rw [hw, Bool.or_true]), unhx_cut M cs h o]
    · rw [if_neg hw, if_neg hw]
      by_cases h62 : c = 62
      · rw [if_pos h62, if_pos h62]
      · rw [if_neg h62, if_neg h62]
        by_cases hd : dgZ c < 0
        · rw [if_pos hd, if_pos hd]
        · have hp : prB c = true := by unfold prB; rw [decide_eq_true (by omega), Bool.true_or]
          rw [if_neg hd, if_neg hd, rowZ, if_pos hp, unhx_cut M cs (dgZ c) o, unhx_cut M cs (-1) (o ++ [h * 16 + dgZ c])]
set_option maxHeartbeats 4000000 in
theorem pdigitsC (h g n c p B : Nat) (A : Option Addr) (zs : List Int) (w : World) (hx : LX w h g A n c p) (hb : Byt w B A n c zs) (hB : B ≤ g) (hn : n ≤ 900000) :
    Calls Try.prog 96 #[.pointer (some ⟨h, 0, none⟩)] w (TkP h g A n c ⟨(hexZ zs p).1, 3, 0, (hexZ zs p).2.1, (hexZ zs p).2.2⟩ w) := by
  have hle : p + rowZ prB (zs.drop p) ≤ n := by
    have := rowZ_le prB (zs.drop p)
    rw [List.length_drop, hb.len] at this
    have := hx.pl
    omega
  have hlen := hb.len
  have hpl := hx.pl
  have hbx := Bx.new w 56 (.int .i64 0) (.int .i64 0) (.int .i64 0) (.slice none 0 0)
  have hb0 : Below w.heap.size w (w.alloc (.cells (tkC 0 0 0 none 0 0) 56)) := (Below.refl w.heap.size w).alloc (Nat.le_refl _) _
  obtain ⟨W0, hW0⟩ : ∃ W0, w.alloc (.cells (tkC 0 0 0 none 0 0) 56) = W0 := ⟨_, rfl⟩
  have hs0 : W0.heap.size = w.heap.size + 1 := by rw [← hW0]; simp
  rw [show w.alloc (.cells #[.int .i64 0, .int .i64 0, .int .i64 0, .slice none 0 0] 56) = W0 from hW0] at hbx
  rw [hW0] at hb0
  have HW0 := Lib.hid (show w.alloc (.cells #[.int .i64 0, .int .i64 0, .int .i64 0, .slice none 0 0] 56) = W0 from hW0)
  have HBX := Lib.hid hbx
  have HB0 := Lib.hid hb0
  have HS0 := Lib.hid hs0
  have HO0 : Hid (Only g w W0) := Lib.hid (Only.of_below hb0 g)
  have hltg := hx.cu.lt
  have hlth := hx.lt
  have HX0 := Lib.hid (hx.below hb0 hlth hltg)
  have HBY0 := Lib.hid (hb.below hb0 (by omega))
  have HLT := Lib.hid (show g < w.heap.size ∧ h < w.heap.size from ⟨hltg, hlth⟩)
  clear hbx hb0 hW0 hs0 hltg hlth
  have hcut := unhx_cut 32767 (zs.drop p) (-1) []
  have hrow := unhx_row 32767 (zs.drop p) (-1) []
  unfold hexZ
  have HRO := Lib.hid (fun nq => prowC pairedF h g n c p B A zs (W0.drewN nq) (HX0.out.drewN nq) (HBY0.out.drewN nq) (by omega))
  have HLF := Lib.hid (fun nq => left_any g n c p A (W0.drewN nq) (HX0.out.cu.drewN nq) hpl (by omega))
  obtain ⟨m, hm⟩ : ∃ m, rowZ prB (zs.drop p) = m := ⟨_, rfl⟩
  rw [hm] at HRO hle hcut hrow ⊢
  rw [List.length_drop, hlen] at hrow
  obtain ⟨k, hk, hkn, hkm, htk⟩ : ∃ k : Nat, ((k : Int) = min ((m : Int) + 1) ((n : Int) - p)) ∧ p + k ≤ n ∧ k ≤ m + 1 ∧ (zs.drop p).take (m + 1) = (zs.drop p).take k := by
    by_cases h1 : p + m < n
    · exact ⟨m + 1, by omega, by omega, by omega, rfl⟩
    · refine ⟨m, by omega, by omega, by omega, ?_⟩
      rw [List.take_of_length_le (by rw [List.length_drop]; omega), List.take_of_length_le (by rw [List.length_drop]; omega)]
  rw [htk] at hcut
  have HTK := Lib.hid (fun nq => take_in g n c p k B A zs (W0.drewN nq) (HX0.out.cu.drewN nq) (HBY0.out.drewN nq) hkn (by omega) hB)
  obtain ⟨R, hR⟩ : ∃ R, unhxR 32767 (zs.drop p) (-1) [] = R := ⟨_, rfl⟩
  rw [hR] at hcut hrow ⊢
  have HUN := Lib.hid (fun (A' : Option Addr) (c' : Nat) (W : World) (hW : Byt W W.heap.size A' k c' ((zs.drop p).take k)) => pUnhex A' k c' 32767 ((zs.drop p).take k) W hW (by omega) (by omega) (by omega) R (by rw [← hcut]; rfl))
  have HLE := Lib.hid hkn
  have HROW := Lib.hid hrow
  have HKK := Lib.hid hk
  have HLN := Lib.hid hlen
  have k0 := HX0.out.k0
  have w1 : IntKind.i64.wrap ((m : Int) + 1) = (m : Int) + 1 := IntWalk.i64_in _ (by omega)
  have HMN := Lib.hid hle
  obtain ⟨ys, e⟩ := R
  have HMI : Hid ((if (m : Int) + 1 ≤ (n : Int) - p then (m : Int) + 1 else (n : Int) - p) = k) := Lib.hid (by split <;> omega)
  clear hx hb hm hR hle hcut hrow hk hlen hpl hkn htk hkm
  by_cases h7 : e = 7
  all_goals
    first
      | (have he : (e == 7) = true := beq_iff_eq.2 h7)
      | (have he : (e == 7) = false := beq_eq_false_iff_ne.2 h7)
    have H7 := Lib.hid h7
    clear h7
    go_enter Try.func96, Try.ntmps96
    go_upto_region 1 with fail
    rw [HW0.out]
    refine wp_region_heldR (fun w' => w'.cell? ⟨h, 0, none⟩ = some (.pointer (some ⟨g, 0, none⟩))) 1000 (by kernel_rfl) k0 (fun hHeld => ?_)
    refine wpAnyR_take 0 rfl (by kernel_rfl) (by kernel_rfl) (by kernel_rfl) (by kernel_rfl) (fun _ _ _ h => h) (by rfl) (v := ?_) ?_ (by assumption) ?_
    rotate_left
    focus
      intro wS hSw
      (try dsimp only at hSw)
      go_simp
      (try simp only [hSw])
      try with_reducible rfl
    intro hHeld
    try simp only [Act.put, List.setIfInBounds_toArray, List.set_cons_zero, List.set_cons_succ]
    refine wpAnyR_take 1 rfl (by kernel_rfl) (by kernel_rfl) (by kernel_rfl) (by kernel_rfl) (fun _ _ _ h => h) (by rfl) (v := ?_) ?_ (by assumption) ?_
    rotate_left
    focus
      intro wS hSw
      (try dsimp only at hSw)
      go_simp
      (try simp only [hSw])
      try with_reducible rfl
    intro hHeld
    try simp only [Act.put, List.setIfInBounds_toArray, List.set_cons_zero, List.set_cons_succ]
    refine wpAnyR_take 2 rfl (by kernel_rfl) (by kernel_rfl) (by kernel_rfl) (by kernel_rfl) (fun _ _ _ h => h) (by rfl) (v := ?_) ?_ (by assumption) ?_
    rotate_left
    focus
      intro wS hSw
      (try dsimp only at hSw)
      go_simp
      (try simp only [hSw])
      try with_reducible rfl
    intro hHeld
    try simp only [Act.put, List.setIfInBounds_toArray, List.set_cons_zero, List.set_cons_succ]
    refine wpAnyR_take 3 rfl (by kernel_rfl) (by kernel_rfl) (by kernel_rfl) (by kernel_rfl) (fun _ _ _ h => h) (by rfl) (v := ?_) ?_ (by assumption) ?_
    rotate_left
    focus
      intro wS hSw
      (try dsimp only at hSw)
      go_simp
      (try simp only [hSw])
      try with_reducible rfl
    intro hHeld
    try simp only [Act.put, List.setIfInBounds_toArray, List.set_cons_zero, List.set_cons_succ]
    refine wpAnyR_take 4 rfl (by kernel_rfl) (by kernel_rfl) (by kernel_rfl) (by kernel_rfl) (fun _ _ _ h => h) (by rfl) (v := ?_) ?_ (by assumption) ?_
    rotate_left
    focus
      intro wS hSw
      (try dsimp only at hSw)
      go_simp
      (try simp only [hSw])
      try with_reducible rfl
    intro hHeld
    try simp only [Act.put, List.setIfInBounds_toArray, List.set_cons_zero, List.set_cons_succ]
    refine wpAnyR_take 7 rfl (by kernel_rfl) (by kernel_rfl) (by kernel_rfl) (by kernel_rfl) (fun _ _ _ h => h) (by rfl) (v := ?_) ?_ (by assumption) ?_
    rotate_left
    focus
      intro wS hSw
      (try dsimp only at hSw)
      go_simp
      (try simp only [hSw])
      try with_reducible rfl
    intro hHeld
    try simp only [Act.put, List.setIfInBounds_toArray, List.set_cons_zero, List.set_cons_succ]
    refine wpAnyR_take 8 rfl (by kernel_rfl) (by kernel_rfl) (by kernel_rfl) (by kernel_rfl) (fun _ _ _ h => h) (by rfl) (v := ?_) ?_ (by assumption) ?_
    rotate_left
    focus
      intro wS hSw
      (try dsimp only at hSw)
      go_simp
      (try simp only [hSw])
      try with_reducible rfl
    intro hHeld
    try simp only [Act.put, List.setIfInBounds_toArray, List.set_cons_zero, List.set_cons_succ]
    refine wpAnyR_take 9 rfl (by kernel_rfl) (by kernel_rfl) (by kernel_rfl) (by kernel_rfl) (fun _ _ _ h => h) (by rfl) (v := ?_) ?_ (by assumption) ?_
    rotate_left
    focus
      intro wS hSw
      (try dsimp only at hSw)
      go_simp
      (try simp only [hSw])
      try with_reducible rfl
    intro hHeld
    try simp only [Act.put, List.setIfInBounds_toArray, List.set_cons_zero, List.set_cons_succ]
    refine wpAnyR_take 10 rfl (by kernel_rfl) (by kernel_rfl) (by kernel_rfl) (by kernel_rfl) (fun _ _ _ h => h) (by rfl) (v := ?_) ?_ (by assumption) ?_
    rotate_left
    focus
      intro wS hSw
      (try dsimp only at hSw)
      go_simp
      (try simp only [hSw])
      try with_reducible rfl
    intro hHeld
    try simp only [Act.put, List.setIfInBounds_toArray, List.set_cons_zero, List.set_cons_succ]
    refine wpAnyR_step 5 rfl (by kernel_rfl) (fun K hK => ?_)
    go_simp
    go_at_call 108
    refine (HRO.out 1).mono ?_
    rintro e w3 ⟨rfl, q3, rfl⟩
    refine hK.out _ _ (k0) (fun hHeld => ?_)
    clear hK K
    try simp only [Act.put, List.setIfInBounds_toArray, List.set_cons_zero, List.set_cons_succ]
    refine wpAnyR_take 6 rfl (by kernel_rfl) (by kernel_rfl) (by kernel_rfl) (by kernel_rfl) (fun _ _ _ h => h) (by rfl) (v := ?_) ?_ (by assumption) ?_
    rotate_left
    focus
      intro wS hSw
      (try dsimp only at hSw)
      go_simp
      (try simp only [hSw])
      try with_reducible rfl
    intro hHeld
    try simp only [Act.put, List.setIfInBounds_toArray, List.set_cons_zero, List.set_cons_succ]
    refine wpAnyR_step 11 rfl (by kernel_rfl) (fun K hK => ?_)
    go_simp
    go_at_call 109
    refine (HLF.out (1 + q3)).mono ?_
    rintro e w3 ⟨rfl, rfl⟩
    refine hK.out _ _ (k0) (fun hHeld => ?_)
    clear hK K
    try simp only [Act.put, List.setIfInBounds_toArray, List.set_cons_zero, List.set_cons_succ]
    refine wpAnyR_take 12 rfl (by kernel_rfl) (by kernel_rfl) (by kernel_rfl) (by kernel_rfl) (fun _ _ _ h => h) (by rfl) (v := ?_) ?_ (by assumption) ?_
    rotate_left
    focus
      intro wS hSw
      (try dsimp only at hSw)
      go_simp
      (try simp only [hSw])
      try with_reducible rfl
    intro hHeld
    try simp only [Act.put, List.setIfInBounds_toArray, List.set_cons_zero, List.set_cons_succ]
    rw [← HKK.out]
    refine wpAnyR_step 13 rfl (by kernel_rfl) (fun K hK => ?_)
    go_simp
    go_at_call 110
    refine (HTK.out (1 + q3)).mono ?_
    rintro e w4 ⟨A4, c4, rfl, hby4, hfr4, hc4, ho4⟩
    have HX4 := Lib.hid ((HX0.out.drewN (1 + q3)).moved hc4 ho4 HLE.out)
    have HO4 := Lib.hid ((HO0.out.drewN (1 + q3)).trans ho4)
    have HBX4 := Lib.hid ((HBX.out.drewN (1 + q3)).only ho4 (by have := HLT.out.1; omega))
    have HBY4 := Lib.hid hby4
    clear hby4 hfr4 hc4 ho4
    refine hK.out _ _ (HX4.out.k0) (fun hHeld => ?_)
    clear hK K
    try simp only [Act.put, List.setIfInBounds_toArray, List.set_cons_zero, List.set_cons_succ]
    refine wpAnyR_take 14 rfl (by kernel_rfl) (by kernel_rfl) (by kernel_rfl) (by kernel_rfl) (fun _ _ _ h => h) (by rfl) (v := ?_) ?_ (by assumption) ?_
    rotate_left
    focus
      intro wS hSw
      (try dsimp only at hSw)
      go_simp
      (try simp only [hSw])
      try with_reducible rfl
    intro hHeld
    try simp only [Act.put, List.setIfInBounds_toArray, List.set_cons_zero, List.set_cons_succ]
    refine wpAnyR_take 15 rfl (by kernel_rfl) (by kernel_rfl) (by kernel_rfl) (by kernel_rfl) (fun _ _ _ h => h) (by rfl) (v := ?_) ?_ (by assumption) ?_
    rotate_left
    focus
      intro wS hSw
      (try dsimp only at hSw)
      go_simp
      (try simp only [hSw])
      try with_reducible rfl
    intro hHeld
    try simp only [Act.put, List.setIfInBounds_toArray, List.set_cons_zero, List.set_cons_succ]
    refine wpAnyR_take 16 rfl (by kernel_rfl) (by kernel_rfl) (by kernel_rfl) (by kernel_rfl) (fun _ _ _ h => h) (by rfl) (v := ?_) ?_ (by assumption) ?_
    rotate_left
    focus
      intro wS hSw
      (try dsimp only at hSw)
      go_simp
      (try simp only [hSw])
      try with_reducible rfl
    intro hHeld
    try simp only [Act.put, List.setIfInBounds_toArray, List.set_cons_zero, List.set_cons_succ]
    refine wpAnyR_take 17 rfl (by kernel_rfl) (by kernel_rfl) (by kernel_rfl) (by kernel_rfl) (fun _ _ _ h => h) (by rfl) (v := ?_) ?_ (by assumption) ?_
    rotate_left
    focus
      intro wS hSw
      (try dsimp only at hSw)
      go_simp
      (try simp only [hSw])
      try with_reducible rfl
    intro hHeld
    try simp only [Act.put, List.setIfInBounds_toArray, List.set_cons_zero, List.set_cons_succ]
    refine wpAnyR_take 18 rfl (by kernel_rfl) (by kernel_rfl) (by kernel_rfl) (by kernel_rfl) (fun _ _ _ h => h) (by rfl) (v := ?_) ?_ (by assumption) ?_
    rotate_left
    focus
      intro wS hSw
      (try dsimp only at hSw)
      go_simp
      (try simp only [hSw])
      try with_reducible rfl
    intro hHeld
    try simp only [Act.put, List.setIfInBounds_toArray, List.set_cons_zero, List.set_cons_succ]
    refine wpAnyR_done (by kernel_rfl) ?_
    refine NoPanic.normal ?_
    have HBB := Lib.hid HBX4.out.lt
    go_wp2_with (go_at_call 117; refine (HUN.out A4 c4 w4 HBY4.out).mono ?_; (rintro r w5 ⟨A5, c5, rfl, hby5, hb5, hfr5⟩); have HX5 := Lib.hid (HX4.out.below hb5 HX4.out.lt HX4.out.cu.lt); have HO5 := Lib.hid (HO4.out.trans (Only.of_below hb5 g)); have HBX5 := Lib.hid (HBX4.out.below hb5 HBX4.out.lt); have HBY5 := Lib.hid hby5; have HFR5 := Lib.hid hfr5; have k0 := HBX5.out.c0; have k1 := HBX5.out.c1; have k2 := HBX5.out.c2; have k3 := HBX5.out.c3; have kf := HBX5.out.fr; clear hb5 hby5 hfr5)
    refine bodyPost_ret (results_cell_row_tmp rfl _ _ w.heap.size 56 _ (0, 0) _ rfl HBX5.out.set4_ Try.underlying56 rfl (by kernel_rfl) _ rfl) rfl ?_
    have hl := HLT.out
    try rw [if_pos H7.out]
    try rw [if_neg H7.out]
    first
      | (exact ⟨_, _, _, _, _, _, _, rfl, HX5.out.set4_ (by omega) (by omega), HO5.out.set4_ (Nat.le_refl _), fun h0 => absurd (show (3 : Int) = 0 from h0) (by decide)⟩)
      | (exact ⟨_, _, _, _, _, _, _, rfl, HX5.out.set4_ (by omega) (by omega), HO5.out.set4_ (Nat.le_refl _), fun h0 => ⟨rfl, rfl, (by have h1 := HROW.out h0; have h2 := HKK.out; show p + k = p + m + 1; omega), by rw [size_set4]; exact HBY5.out.set4_ HFR5.out HBB.out, fun h9 b o e => by have h1 := HFR5.out h9 b o e; have h2 := HBB.out; omega⟩⟩)
end
end Go.Proofs.Ytpomkhcobpihmaa
