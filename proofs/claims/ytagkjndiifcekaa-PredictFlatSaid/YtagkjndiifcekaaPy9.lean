/- Chapter 9, the project's own: read. -/
import Derived.Test.YtagkjndiifcekaaPw9
namespace Go.Proofs.Ytagkjndiifcekaa
open Go.RowKit
set_option linter.unusedVariables false
set_option maxRecDepth 100000

theorem upon_new9 {P : Program} {o : Oper} {a : Act} {w : World} {K : Act → World → Prop} {Q : Exit → Act → World → Prop} {v : Value} {I : Sem Value} (o' : Obj)
    (hrun : I.run P w = .ok v (w.alloc o')) (hK : ∀ w', Below w.heap.size w w' → w'.heap[w.heap.size]? = some o' → K (a.put o.dst v) w') :
    Oper.upon P o a K Q ((Sem.run P I w).andThen fun a w' => .ok (.value a) w') := by
  rw [hrun]
  exact hK _ ((Below.refl _ _).alloc (Nat.le_refl _) _) (heap_alloc_new w _)
theorem alloc_split9 {w w' : World} {o : Obj} (h : Below (w.alloc o).heap.size (w.alloc o) w') : Below w.heap.size w w' ∧ w'.heap[w.heap.size]? = some o := by
  have hs : w.heap.size ≤ (w.alloc o).heap.size := by simp
  exact ⟨((Below.refl w.heap.size w).alloc (Nat.le_refl _) o).trans (h.mono hs), (h.block w.heap.size (show w.heap.size < (w.alloc o).heap.size by simp)).trans (heap_alloc_new w o)⟩
theorem alloc_split9d {w w' : World} {o : Obj} (h : Below (w.alloc o).drew.heap.size (w.alloc o).drew w') : Below w.drew.heap.size w.drew w' ∧ w'.heap[w.heap.size]? = some o := by
  have hs : w.heap.size ≤ (w.alloc o).heap.size := by simp
  exact ⟨(show Below w.heap.size w.drew (w.alloc o).drew from ⟨rfl, rfl, rfl, hs, ((Below.refl w.heap.size w).alloc (Nat.le_refl _) o).block⟩).trans (h.mono hs), (h.block w.heap.size (show w.heap.size < (w.alloc o).heap.size by simp)).trans (heap_alloc_new w o)⟩
theorem blk_keep9 {W W' : World} {g : Nat} {o : Obj} (hb : Below W.heap.size W W') (h : W.heap[g]? = some o) : W'.heap[g]? = some o := (hb.block g (row_lt W g o h)).trans h
theorem blk_ne9 {W : World} {x y : Nat} {ca cb : Array Value} {t1 t2 : TypeId} {p q : Nat × Nat} (h1 : W.heap[x]? = some (.cells ca t1 p)) (h2 : W.heap[y]? = some (.cells cb t2 q)) (ht : t1 ≠ t2) : x ≠ y := fun e => by
  subst e
  rw [h1] at h2
  injection h2 with h2
  injection h2 with _ h3 _
  exact ht h3
theorem rows_cells {W : World} {g : Nat} (hh : W.heap[g]? = some (.cells #[.slice none 0 0, .int .i64 0, .int .i64 0] 49 (0, 0))) :
    W.cell? ⟨g, 0, none⟩ = some (.slice none 0 0) ∧ W.cell? ⟨g, 1, none⟩ = some (.int .i64 0) ∧ W.cell? ⟨g, 2, none⟩ = some (.int .i64 0) ∧ (∀ i, W.frozen? ⟨g, i, none⟩ = false) :=
  ⟨by rw [cell_of_row W g 0 _ 49 (0, 0) hh]; rfl, by rw [cell_of_row W g 1 _ 49 (0, 0) hh]; rfl, by rw [cell_of_row W g 2 _ 49 (0, 0) hh]; rfl, fun i => by simp [World.frozen?, hh]⟩
theorem sp_set3 {W : World} {g0 g : Nat} {P C K : Int} {x y z : Value} (h : SpB W g0 P C K) (hl : g0 < g) : SpB (((W.setCell ⟨g, 0, none⟩ x).setCell ⟨g, 1, none⟩ y).setCell ⟨g, 2, none⟩ z) g0 P C K :=
  ((h.set_ g 0 x (Nat.ne_of_lt hl)).set_ g 1 y (Nat.ne_of_lt hl)).set_ g 2 z (Nat.ne_of_lt hl)
theorem blk_set3 {W : World} {b g : Nat} {o : Obj} {x y z : Value} (h : W.heap[b]? = some o) (hl : b ≠ g) : (((W.setCell ⟨g, 0, none⟩ x).setCell ⟨g, 1, none⟩ y).setCell ⟨g, 2, none⟩ z).heap[b]? = some o :=
  (Below.heap_setCell _ ⟨g, 2, none⟩ z b hl).trans ((Below.heap_setCell _ ⟨g, 1, none⟩ y b hl).trans ((Below.heap_setCell W ⟨g, 0, none⟩ x b hl).trans h))
theorem below_set3 {B : Nat} {w W : World} {g : Nat} {x y z : Value} (h : Below B w W) (hl : B ≤ g) : Below B w (((W.setCell ⟨g, 0, none⟩ x).setCell ⟨g, 1, none⟩ y).setCell ⟨g, 2, none⟩ z) :=
  ((h.setCell (p := ⟨g, 0, none⟩) hl x).setCell (p := ⟨g, 1, none⟩) hl y).setCell (p := ⟨g, 2, none⟩) hl z
abbrev rulsO (r : Value) : Obj := .cells #[ruV 28 r, ruV 29 r, ruV 30 r, ruV 31 r, ruV 32 r] 51
theorem ruls_cell (T : Int) (F : Nat) (h : isRule T F) (r : Value) (w : World) : (w.alloc (rulsO r)).cell? ⟨w.heap.size, T.toNat, none⟩ = some (ruV F r) := by
  have hn := heap_alloc_new w (rulsO r)
  rcases h with ⟨rfl, rfl⟩ | ⟨rfl, rfl⟩ | ⟨rfl, rfl⟩ | ⟨rfl, rfl⟩ | ⟨rfl, rfl⟩
  all_goals
    rw [cell_of_row _ w.heap.size _ _ 51 (0, 0) hn]
    rfl
/-- The row that is being filled: what has come, noughts behind it. -/
structure RZ (W : World) (g L : Nat) (O : List Int) : Prop where
  le : O.length ≤ L
  rng : ∀ z ∈ O, 0 ≤ z ∧ z < 256
  cell : W.heap[g]? = some (.cells (u8s (O ++ List.replicate (L - O.length) 0)).toArray 5 (0, 0))
section
variable {W W' : World} {g L : Nat} {O : List Int}
theorem RZ.len (h : RZ W g L O) : (O ++ List.replicate (L - O.length) (0 : Int)).length = L := by have := h.le; simp; omega
theorem RZ.rngA (h : RZ W g L O) : ∀ z ∈ O ++ List.replicate (L - O.length) (0 : Int), 0 ≤ z ∧ z < 256 := fun z hz => by
  rcases List.mem_append.1 hz with hz | hz
  · exact h.rng z hz
  · rw [(List.mem_replicate.1 hz).2]; omega
theorem RZ.byt (h : RZ W g L O) : Byt W W.heap.size (some ⟨g, 0, none⟩) L L (O ++ List.replicate (L - O.length) 0) := own_byt W g L _ h.cell h.len h.rngA
theorem RZ.keep (h : RZ W g L O) (hb : Below W.heap.size W W') : RZ W' g L O := ⟨h.le, h.rng, blk_keep9 hb h.cell⟩
theorem RZ.drew (h : RZ W g L O) : RZ W.drew g L O := ⟨h.le, h.rng, h.cell⟩
theorem RZ.fr (h : RZ W g L O) (i : Nat) : W.frozen? ⟨g, i, none⟩ = false := own_fr W g i _ h.cell
theorem RZ.there (h : RZ W g L O) (u : Nat) (hu : O.length = u) (hl : u < L) : W.cell? ⟨g, u, none⟩ = some (.int .u8 0) := by
  obtain ⟨b, o, he, _, hc⟩ := h.byt.cell (by omega)
  injection he with he
  injection he with h1 h2
  subst h1 h2
  have h3 := hc u hl
  rw [Nat.zero_add] at h3
  rw [h3]
  congr 2
  simp only [List.getD]
  rw [List.getElem?_append_right (by omega), List.getElem?_replicate]
  split <;> rfl
theorem RZ.step (h : RZ W g L O) (u : Nat) (hu : O.length = u) (hl : u < L) (V : Int) (hV : 0 ≤ V ∧ V < 256) : RZ (W.setCell ⟨g, u, none⟩ (.int .u8 V)) g L (O ++ [V]) := by
  refine ⟨by rw [List.length_append]; simp; omega, fun z hz => ?_, ?_⟩
  · rcases List.mem_append.1 hz with hz | hz
    · exact h.rng z hz
    · simp only [List.mem_singleton] at hz; omega
  · rw [own_set W g u _ V h.cell]
    congr 3
    rw [List.length_append, List.length_singleton, show L - O.length = (L - (O.length + 1)) + 1 by omega, List.replicate_succ, List.append_assoc, ← hu]
    rw [List.set_append_right _ _ (Nat.le_refl _), Nat.sub_self]
    rfl
theorem RZ.gs (h : RZ W g L O) (t : Int) (c n : Nat) (hc : 0 < c) (hn : 0 < n) : gsZ t c n (O ++ List.replicate (L - O.length) 0) O.length = gsZ t c n O O.length := by
  rw [← gsZ_take t c n (O ++ List.replicate (L - O.length) 0) O.length hc hn, List.take_left]
end
theorem run_cutE9 {P : Program} (W : World) (t e : TypeId) (ht : P.underlying t = some (.slice e)) (hz : ∀ w, (Go.sizeOf e).run P w = .ok 1 w) (A : Option Addr) (len cap l : Nat) (hl : l ≤ len) (hlc : len ≤ cap) :
    (Instr.slice t (.slice A len cap) (some (.int .i64 (l : Int))) none none).run P W = .ok (.slice (cutA A cap l) (len - l) (cap - l)) W := by
  have ht' : P.underlying t = some (.slice (P.elem t)) := by simp [Program.elem, ht]
  have he : P.elem t = e := by simp [Program.elem, ht]
  rw [run_slice_l W t _ _ _ ht' .i64 _ (by omega) (by omega), he, hz]
  simp [Result.andThen, sliced, cutA]
theorem RdP.of_own {w w' : World} {A : Option Addr} {L c : Nat} {O : List Int} (hb : Below w.heap.size w w') (h : Byt w' w'.heap.size A L c O) (hl : O.length = L) : RdP w (O, 0) (.returned (.tuple #[.slice A L c, .int .i64 0])) w' := by
  subst hl
  exact ⟨A, c, rfl, h, hb⟩
def slLen : Value → Nat
  | .slice _ l _ => l
  | _ => 0
set_option maxHeartbeats 4000000 in
theorem pReadC (P : Int) (c k n : Nat) (A : Option Addr) (m cp : Nat) (zs : List Int) (w : World) (hb : Byt w w.heap.size A m cp zs) (hm : m ≤ 10000) (hP : P = 2 ∨ (10 ≤ P ∧ P ≤ 15)) (hc : 1 ≤ c ∧ c ≤ 4) (hk : 1 ≤ k ∧ k ≤ 4096) (hn : c * k = n) (ah : Nat) (hah : (if 10 ≤ P then 1 else 0) = ah) (R : List Int × Int)
    (hR : (if m % (n + ah) ≠ 0 then ([], 4) else undF c n ah zs m 0 []) = R) :
    Calls Try.prog 18 #[shV P c k, .slice A m cp] w (RdP w R) := by
  have hnb : 1 ≤ n ∧ n ≤ 16384 := by
    rw [← hn]
    exact ⟨Nat.mul_pos hc.1 hk.1, Nat.mul_le_mul hc.2 hk.2⟩
  have HBY := Lib.hid (fun W (hW : Below w.heap.size w W) => (hb.below hW (Nat.le_refl _)).more hW.size)
  have HRG := Lib.hid hb.rng
  have HLEN := Lib.hid hb.len
  have HRW := Lib.hid (fun W => rowC P c k n W hc.2 hk.2 hn)
  have HAH := Lib.hid (fun W => aheadC P c k W)
  have HRU := Lib.hid (fun A m cp W => rulesC A m cp n c W)
  have HD1 := Lib.hid ((Below.refl w.heap.size w).alloc (Nat.le_refl _) (.cells #[.int .i64 P, .int .i64 c, .int .i64 k] 28))
  have HSH := Lib.hid (SpB.new w P c k)
  obtain ⟨W1, hW1⟩ : ∃ W1, w.alloc (.cells #[.int .i64 P, .int .i64 c, .int .i64 k] 28) = W1 := ⟨_, rfl⟩
  rw [hW1] at HD1 HSH
  have HB := Lib.hid HD1.out.drew
  have HS := Lib.hid HSH.out.drew
  have c0 := HSH.out.c0
  have c1 := HSH.out.c1
  have c2 := HSH.out.c2
  have eah : (if 10 ≤ P then (1 : Int) else 0) = ah := by rw [← hah]; split <;> rfl
  rw [eah] at HAH
  have ha1 : ah ≤ 1 := by rw [← hah]; split <;> omega
  obtain ⟨N, hN⟩ : ∃ N, n + ah = N := ⟨_, rfl⟩
  rw [hN] at hR
  have wN1 : IntKind.i64.wrap ((ah : Int) + (n : Int)) = (N : Int) := by rw [IntWalk.i64_in _ (by omega)]; omega
  obtain ⟨rm, hrm⟩ : ∃ rm, m % N = rm := ⟨_, rfl⟩
  rw [hrm] at hR
  have er1 : (m : Int).tmod N = rm := by rw [Int.tmod_eq_emod_of_nonneg (by omega)]; omega
  have er2 : (m : Int) % N = rm := by omega
  have wrm : IntKind.i64.wrap (rm : Int) = rm := IntWalk.i64_in _ (by have := Nat.mod_le m N; omega)
  have hn0 : ¬ (N : Int) = 0 := by omega
  have HNE := Lib.hid hN
  clear hb hn hah eah hN
  by_cases hrm0 : rm = 0
  · have er3 : ((rm : Int) != 0) = false := by simp [hrm0]
    rw [if_neg (by omega)] at hR
    obtain ⟨q0, hq0⟩ : ∃ q0, m / N = q0 := ⟨_, rfl⟩
    have hqm : q0 ≤ 10000 := by rw [← hq0]; have := Nat.div_le_self m N; omega
    have HQN : Hid (q0 * N = m) := Lib.hid (by rw [← hq0]; exact Nat.div_mul_cancel (Nat.dvd_of_mod_eq_zero (by omega)))
    have dq1 : (m : Int).tdiv N = q0 := by rw [Int.tdiv_eq_ediv_of_nonneg (by omega)]; rw [← hq0]; simp
    have dq2 : (m : Int) / N = q0 := by rw [← hq0]; simp
    have wq : IntKind.i64.wrap (q0 : Int) = q0 := IntWalk.i64_in _ (by omega)
    obtain ⟨L, hL⟩ : ∃ L, q0 * n = L := ⟨_, rfl⟩
    have hLb : L ≤ 10000 := by
      have h1 : q0 * n ≤ q0 * N := Nat.mul_le_mul_left q0 (by have := HNE.out; omega)
      have := HQN.out
      omega
    have eL : (q0 : Int) * (n : Int) = L := by rw [← hL]; simp
    have wL : IntKind.i64.wrap (L : Int) = L := IntWalk.i64_in _ (by omega)
    have HMK := Lib.hid (fun W : World => make_bytes L L W (Nat.le_refl _) (by omega))
    have HLL := Lib.hid hL
    have HLB := Lib.hid hLb
    have hN0 : ¬ N = 0 := by omega
    clear hrm hq0 hL hLb hqm
    go_enter Try.func18, Try.ntmps18
    go_upto_region 1 with fail
    go_region_held3 (fun w' => w'.cell? ⟨w.heap.size, 0, none⟩ = some (.int .i64 P) ∧ w'.cell? ⟨w.heap.size, 1, none⟩ = some (.int .i64 c) ∧ w'.cell? ⟨w.heap.size, 2, none⟩ = some (.int .i64 k)) (first | exact ⟨c0, c1, c2⟩ | exact ⟨d0, d1, d2⟩ | exact ⟨e0, e1, e2⟩ | go_keep)
     (first
      | (go_simp; go_at_call 23; with_reducible refine (HAH.out _).mono ?_; (rintro r w2 ⟨rfl, hb2⟩); have HB2 := Lib.hid (HB.out.trans (hb2.mono HB.out.size)); have HS2 := Lib.hid (HS.out.below hb2 HS.out.lt); have d0 := HS2.out.c0; have d1 := HS2.out.c1; have d2 := HS2.out.c2; clear hb2)
      | (go_simp; go_at_call 24; with_reducible refine (HRW.out _).mono ?_; (rintro r w3 ⟨rfl, hb3⟩); have HB3 := Lib.hid (HB2.out.trans (hb3.mono HB2.out.size)); have HS3 := Lib.hid (HS2.out.below hb3 HS2.out.lt); have e0 := HS3.out.c0; have e1 := HS3.out.c1; have e2 := HS3.out.c2; clear hb3))
    have HB := Lib.hid HB3.out.drew
    have HS := Lib.hid HS3.out.drew
    clear HS2 HS3 HB2 HB3 c0 c1 c2 d0 d1 d2
    go_upto_region 4 with fail
    rename_i KR hKR
    suffices hrest : ∀ (u23 u24 u25 u26 u27 u28 u29 u30 u31 u32 u33 u34 u35 : Value) (gB g : Nat) (wx : World), Hid (RwB wx g (some ⟨gB, 0, none⟩) L L n c) → Hid (SpB wx w.heap.size P c k) → Hid (Below w.heap.size w wx) → Hid (wx.heap[gB]? = some (.cells (u8s (List.replicate L 0)).toArray 5 (0, 0))) → Hid (w.heap.size < gB) → Hid (gB ≠ g) → Hid (w.heap.size < g) → KR { tmps := #[shV P c k, .slice A m cp, .pointer (some ⟨w.heap.size, 0, none⟩), undef, .slice none 0 0, .int .i64 0, .int .i64 N, .pointer (some ⟨g, 0, none⟩), undef, undef, undef, undef, undef, .agg #[.int .i64 P, .int .i64 c, .int .i64 k], .int .i64 ah, .agg #[.int .i64 P, .int .i64 c, .int .i64 k], .int .i64 n, .int .i64 N, .slice A m cp, .int .i64 m, .int .i64 N, .int .i64 0, .bool false, u23, u24, u25, u26, u27, u28, u29, u30, u31, u32, u33, u34, u35, undef, undef, undef, undef, undef, undef, undef, undef, undef, undef, undef, undef, undef, undef, undef, undef, undef, undef, undef, undef, undef, undef, undef, undef, undef, undef, undef, undef, undef, undef, undef, undef, undef, undef, undef, undef, undef, undef, undef, undef, undef, undef, undef], defers := [] } wx by
      clear hKR
      go_region_held3 (fun w' => w'.cell? ⟨w.heap.size, 0, none⟩ = some (.int .i64 P) ∧ w'.cell? ⟨w.heap.size, 1, none⟩ = some (.int .i64 c) ∧ w'.cell? ⟨w.heap.size, 2, none⟩ = some (.int .i64 k)) (first | exact ⟨e0, e1, e2⟩ | exact ⟨c0, c1, c2⟩ | exact ⟨(sp_set3 HS.out HGL.out).c0, (sp_set3 HS.out HGL.out).c1, (sp_set3 HS.out HGL.out).c2⟩ | go_keep)
       (first
        | (refine upon_new9 _ (HMK.out _) ?_; intro wN hbN hmN; (first | (have hx := alloc_split9 hbN; have hl := (HS.out.below ((Below.refl _ _).alloc (Nat.le_refl _) (.cells #[.slice none 0 0, .int .i64 0, .int .i64 0] 49)) HS.out.lt).lt; rw [World.size_alloc] at hmN hl; have HML := Lib.hid hl; have HGL := Lib.hid HS.out.lt; have HG := Lib.hid hx.2; have hb2 := hx.1; clear hx hl) | (have HML := Lib.hid HS.out.lt; (first | (have HG := Lib.hid (blk_keep9 hbN HG.out)) | skip); have hb2 := hbN)); have HB := Lib.hid (HB.out.trans (hb2.mono HB.out.size)); have HS := Lib.hid (HS.out.below hb2 HS.out.lt); have c0 := HS.out.c0; have c1 := HS.out.c1; have c2 := HS.out.c2; (first | (have q0 := (rows_cells HG.out).1; have q1 := (rows_cells HG.out).2.1; have q2 := (rows_cells HG.out).2.2.1; have q3 := (rows_cells HG.out).2.2.2) | skip); have HM := Lib.hid hmN; clear hbN hmN hb2)
        | (go_simp; go_at_call 24; with_reducible refine (HRW.out _).mono ?_; (rintro r wN ⟨rfl, hbN⟩); (first | (have hx := alloc_split9d hbN; have HGL := Lib.hid HS.out.lt; have HG := Lib.hid hx.2; have hb2 := hx.1; clear hx) | (have hx := alloc_split9 hbN; have HGL := Lib.hid HS.out.lt; have HG := Lib.hid hx.2; have hb2 := hx.1; clear hx) | ((first | (have HG := Lib.hid (blk_keep9 hbN HG.out)) | skip); have hb2 := hbN)); (first | (have HM := Lib.hid (blk_keep9 hb2 HM.out)) | skip); have HB := Lib.hid (HB.out.trans (hb2.mono HB.out.size)); have HS := Lib.hid (HS.out.below hb2 HS.out.lt); have c0 := HS.out.c0; have c1 := HS.out.c1; have c2 := HS.out.c2; (first | (have q0 := (rows_cells HG.out).1; have q1 := (rows_cells HG.out).2.1; have q2 := (rows_cells HG.out).2.2.1; have q3 := (rows_cells HG.out).2.2.2) | skip); clear hbN hb2))
      all_goals first
        | exact hrest _ _ _ _ _ _ _ _ _ _ _ _ _ _ _ _ (Lib.hid (RwB.new wN _ L L n c)) (Lib.hid (HS.out.below ((Below.refl wN.heap.size wN).alloc (Nat.le_refl _) _) HS.out.lt)) (Lib.hid (HB.out.alloc HB.out.size _)) (Lib.hid (blk_keep9 ((Below.refl wN.heap.size wN).alloc (Nat.le_refl _) _) HM.out)) HML (Lib.hid (Nat.ne_of_lt (row_lt _ _ _ HM.out))) (Lib.hid HS.out.lt)
        | exact hrest _ _ _ _ _ _ _ _ _ _ _ _ _ _ _ _ (Lib.hid (rows_set HG.out)) (Lib.hid (sp_set3 HS.out HGL.out)) (Lib.hid (below_set3 HB.out (Nat.le_of_lt HGL.out))) (Lib.hid (blk_set3 HM.out (blk_ne9 HM.out HG.out (by decide)))) HML (Lib.hid (blk_ne9 HM.out HG.out (by decide))) HGL
    intro u23 u24 u25 u26 u27 u28 u29 u30 u31 u32 u33 u34 u35 gB g wx HR3 HS3 HB3 HZ3 HML HNG HGL
    refine hKR _ _ ?_
    clear hKR KR e0 e1 e2 HB HS HMK
    have c0 := HR3.out.c0
    have c1 := HR3.out.c1
    have c2 := HR3.out.c2
    go_upto_region 6 with (go_at_call 25; with_reducible refine (HRU.out _ _ _ _).mono ?_; (rintro r w4 ⟨rfl, hb4⟩); have HB4 := Lib.hid (HB3.out.trans (hb4.mono HB3.out.size)); have HR4 := Lib.hid (HR3.out.below hb4 HR3.out.lt); have HS4 := Lib.hid (HS3.out.below hb4 HS3.out.lt); have HZ4 := Lib.hid (blk_keep9 hb4 HZ3.out); clear hb4)
    have HAN := Lib.hid (fun T F h => ruls_cell T F h (rwV (some ⟨gB, 0, none⟩) L L n c) w4)
    have HB5 := Lib.hid ((Below.refl w4.heap.size w4).alloc (Nat.le_refl _) (rulsO (rwV (some ⟨gB, 0, none⟩) L L n c)))
    have HAL := Lib.hid (show w4.heap.size < (w4.alloc (rulsO (rwV (some ⟨gB, 0, none⟩) L L n c))).heap.size by simp)
    obtain ⟨gA, hgA⟩ : ∃ gA, w4.heap.size = gA := ⟨_, rfl⟩
    obtain ⟨W5, hW5⟩ : ∃ W5, w4.alloc (rulsO (rwV (some ⟨gB, 0, none⟩) L L n c)) = W5 := ⟨_, rfl⟩
    have HR5 := Lib.hid (HR4.out.below HB5.out HR4.out.lt)
    have HS5 := Lib.hid (HS4.out.below HB5.out HS4.out.lt)
    have HZ5 := Lib.hid (blk_keep9 HB5.out HZ4.out)
    have HBB := Lib.hid (HB4.out.trans (HB5.out.mono HB4.out.size))
    have HGA : Hid (gB < gA) := Lib.hid (by rw [← hgA]; exact row_lt _ _ _ HZ4.out)
    rw [hW5] at HAN HAL HR5 HS5 HZ5 HBB ⊢
    rw [hgA] at HAN HAL ⊢
    clear HB5 HR4 HS4 HZ4 HB4 HR3 HS3 HB3 HZ3 HRU hW5 hgA c0 c1 c2
    have HRZ0 : Hid (RZ W5 gB L []) := Lib.hid ⟨Nat.zero_le _, (fun _ h => by cases h), HZ5.out⟩
    have HGB : Hid (gB < W5.heap.size) := Lib.hid (row_lt _ _ _ HZ5.out)
    have HSP : Hid (∀ W, Only gB W5 W → SpB W w.heap.size P c k) := Lib.hid (fun W ho => ⟨Nat.lt_of_lt_of_le HS5.out.lt ho.size, (ho.cell (p := ⟨w.heap.size, 0, none⟩) HS5.out.lt (Nat.ne_of_lt HML.out)).trans HS5.out.c0, (ho.cell (p := ⟨w.heap.size, 1, none⟩) HS5.out.lt (Nat.ne_of_lt HML.out)).trans HS5.out.c1, (ho.cell (p := ⟨w.heap.size, 2, none⟩) HS5.out.lt (Nat.ne_of_lt HML.out)).trans HS5.out.c2⟩)
    have HRR : Hid (∀ W, Only gB W5 W → RwB W g (some ⟨gB, 0, none⟩) L L n c) := Lib.hid (fun W ho => ⟨Nat.lt_of_lt_of_le HR5.out.lt ho.size, (ho.cell (p := ⟨g, 0, none⟩) HR5.out.lt (Ne.symm HNG.out)).trans HR5.out.c0, (ho.cell (p := ⟨g, 1, none⟩) HR5.out.lt (Ne.symm HNG.out)).trans HR5.out.c1, (ho.cell (p := ⟨g, 2, none⟩) HR5.out.lt (Ne.symm HNG.out)).trans HR5.out.c2⟩)
    have HAA : Hid (∀ W, Only gB W5 W → ∀ T F, isRule T F → W.cell? ⟨gA, T.toNat, none⟩ = some (ruV F (rwV (some ⟨gB, 0, none⟩) L L n c))) := Lib.hid (fun W ho T F h => (ho.cell (p := ⟨gA, T.toNat, none⟩) HAL.out (Nat.ne_of_gt HGA.out)).trans (HAN.out T F h))
    have HBO : Hid (∀ W, Only gB W5 W → Below w.heap.size w W) := Lib.hid (fun W ho => HBB.out.trans (ho.belowB (Nat.le_of_lt HML.out) (Nat.le_of_lt HGB.out)))
    have HUF : Hid (undF c n ah zs m 0 [] = R) := Lib.hid hR
    clear hR HAN HR5 HS5 HZ5 hrm0
    go_wp2_with fail
    go_loopw [1, 9, 10, 12] (fun bv av _ _ wr => ∃ (A1 : Option Addr) (c1 q r m1 f u : Nat) (O : List Int), bv = .slice A1 m1 c1 ∧ av = .int .i64 u ∧ Hid (q * N = r ∧ q * n = u ∧ O.length = u ∧ r + m1 = m ∧ q ≤ q0 ∧ m ≤ r + f) ∧ Hid (∀ W, Below w.heap.size w W → Byt W W.heap.size A1 m1 c1 (zs.drop r)) ∧ Hid (undF c n ah zs f r O = R) ∧ Hid (RZ wr gB L O) ∧ Hid (Only gB W5 wr)) (fun bv _ _ _ _ => slLen bv)
    case atStart => exact ⟨A, cp, 0, 0, m, m, 0, [], rfl, rfl, Lib.hid ⟨Nat.zero_mul _, Nat.zero_mul _, rfl, by omega, Nat.zero_le _, by omega⟩, HBY, HUF, HRZ0, Lib.hid (Only.refl _ _)⟩
    case round =>
      obtain ⟨A1, c1, q, r, m1, f0, u, O, rfl, rfl, HNUM, HB1, HU, HRZ, HO⟩ := hrel
      by_cases h1 : 0 < m1
      · obtain ⟨hqN, hqn, hOu, hrm1, hq0, hmf⟩ := HNUM.out
        have hqq : q < q0 := by
          rcases Nat.lt_or_ge q q0 with h | h
          · exact h
          · have h2 := Nat.mul_le_mul_right N h
            have h3 := HQN.out
            omega
        have hs1 := Nat.mul_le_mul_right N hqq
        have hs2 := Nat.mul_le_mul_right n hqq
        rw [Nat.succ_mul, hqN, HQN.out] at hs1
        rw [Nat.succ_mul, hqn, HLL.out] at hs2
        obtain ⟨f, rfl⟩ : ∃ f, f0 = f + 1 := ⟨f0 - 1, by omega⟩
        have ho := HU.out
        rw [undF, if_pos (by rw [HLEN.out]; omega)] at ho
        have kS := HSP.out wr HO.out
        have k0 := kS.c0
        have k1 := kS.c1
        have k2 := kS.c2
        have hA1 : (0 : Int) < m1 := by omega
        have HS12 : Hid (r + N = (q + 1) * N ∧ u + n = (q + 1) * n ∧ r + N ≤ m ∧ u + n ≤ L) := Lib.hid ⟨by rw [Nat.succ_mul, hqN], by rw [Nat.succ_mul, hqn], hs1, hs2⟩
        have hm1N : N ≤ m1 := by omega
        have hr1 : r + n + ah = r + N := by have := HNE.out; omega
        rw [hr1] at ho
        have HQQ := Lib.hid hqq
        clear hs1 hs2 hr1 hqq
        by_cases hah1 : ah = 1
        · have ga : (ah : Int) > 0 := by omega
          obtain ⟨b1, o1, hAe, _, hcl⟩ := (HB1.out wr (HBO.out wr HO.out)).cell (by omega)
          obtain ⟨T, hT⟩ : ∃ T, zs.getD r 0 = T := ⟨_, rfl⟩
          have hTd : (zs.drop r).getD 0 0 = T := by rw [← hT]; simp [List.getD]
          have htr8 := getD_rng zs HRG.out r
          rw [hT] at htr8
          have HC1 : Hid (∀ W, Below w.heap.size w W → W.cell? ⟨b1, o1, none⟩ = some (.int .u8 T)) := Lib.hid (fun W hW => by
            obtain ⟨b', o', he', _, hcl'⟩ := (HB1.out W hW).cell (by omega)
            have e3 := hAe.symm.trans he'
            simp only [Option.some.injEq, Addr.mk.injEq] at e3
            obtain ⟨e1, e2, _⟩ := e3
            have h := hcl' 0 (by omega)
            rw [hTd] at h
            rw [e1, e2]
            exact h)
          have wT1 : IntKind.i64.wrap T = T := IntWalk.i64_in _ (by omega)
          rw [if_pos hah1, hT] at ho
          subst hAe
          clear hT hTd hcl
          by_cases g4 : 4 < T
          · rw [if_pos g4] at ho
            subst ho
            have gT : T > (4 : Int) := g4
            clear g4 hqN hqn hOu hrm1 hq0 hmf hah1
            go_wp2_with (first
              | (go_at_call 23; with_reducible refine (HAH.out _).mono ?_; (rintro r wa ⟨rfl, hba⟩); have HO6 := Lib.hid (HO.out.trans (Only.of_below hba gB)); have cb := HC1.out wa (HBO.out wa HO6.out); clear hba))
            go_ret2
            exact RdP.of_bad 4 (HBO.out _ HO6.out)
          · rw [if_neg g4] at ho
            have htr : 0 ≤ T ∧ T ≤ 4 := by omega
            clear g4 hqN hqn hOu hrm1 hq0 hmf hah1
            obtain ⟨F, hF⟩ := isRule_ex T htr
            have HFR := Lib.hid hF
            have hcf := rule_cf T F hF
            have HRL := Lib.hid (fun i ps W (hW : Byt W W.heap.size (some ⟨gB, 0, none⟩) L L ps) (hi : i < L) => ruleC T F hF (some ⟨gB, 0, none⟩) L L i n c ps W hW hi (by have := HLB.out; omega) hc hnb)
            have gT : ¬ T > (4 : Int) := by omega
            obtain ⟨X, hX⟩ : ∃ X, ((zs.drop r).drop ah).take n = X := ⟨_, rfl⟩
            have hXz : (zs.drop (r + ah)).take n = X := by rw [← hX, List.drop_drop]
            obtain ⟨A2, hA2⟩ : ∃ A2, cutA (some ⟨b1, o1, none⟩) c1 ah = A2 := ⟨_, rfl⟩
            obtain ⟨c2, hc2⟩ : ∃ c2, c1 - ah = c2 := ⟨_, rfl⟩
            have HB2 : Hid (∀ W, Below w.heap.size w W → Byt W W.heap.size A2 n c2 X) := Lib.hid (fun W hW => by
              have h := (HB1.out W hW).cut (l := ah) (m := n) (by have := HNE.out; omega)
              rw [hA2, hc2, hX] at h
              exact h)
            have hXl : X.length = n := (HB2.out wr (HBO.out wr HO.out)).len
            have HXR := Lib.hid (HB2.out wr (HBO.out wr HO.out)).rng
            have hcap := (HB1.out wr (HBO.out wr HO.out)).cap
            have HCT : Hid (∀ W, (Instr.slice 23 (.slice (some ⟨b1, o1, none⟩) m1 c1) (some (.int .i64 (ah : Int))) (some (.int .i64 (N : Int))) none).run Try.prog W = .ok (.slice A2 n c2) W) := Lib.hid (fun W => by
              have h := run_cut (P := Try.prog) W 23 5 Try.underlying23 (fun _ => by kernel_rfl) (some ⟨b1, o1, none⟩) m1 c1 ah N (by have := HNE.out; omega) (by omega)
              rw [hA2, hc2, show N - ah = n by have := HNE.out; omega] at h
              exact h)
            have hct := HCT.out
            have HCE : Hid (∀ W, (Instr.slice 23 (.slice (some ⟨b1, o1, none⟩) m1 c1) (some (.int .i64 (N : Int))) none none).run Try.prog W = .ok (.slice (cutA (some ⟨b1, o1, none⟩) c1 N) (m1 - N) (c1 - N)) W) := Lib.hid (fun W => run_cutE9 (P := Try.prog) W 23 5 Try.underlying23 (fun _ => by kernel_rfl) (some ⟨b1, o1, none⟩) m1 c1 N (by omega) hcap)
            have hce := HCE.out
            have HB3 : Hid (∀ W, Below w.heap.size w W → Byt W W.heap.size (cutA (some ⟨b1, o1, none⟩) c1 N) (m1 - N) (c1 - N) (zs.drop (r + N))) := Lib.hid (fun W hW => by
              have h0 := HB1.out W hW
              have h := h0.cut (l := N) (m := m1 - N) (by omega)
              rw [List.drop_drop, List.take_of_length_le (by have := h0.len; rw [List.length_drop] at this ⊢; omega)] at h
              exact h)
            obtain ⟨b2, o2, hAe, _, _⟩ := (HB2.out wr (HBO.out wr HO.out)).cell (by omega)
            have HC2 : Hid (∀ W, Below w.heap.size w W → ∀ j, j < n → W.cell? ⟨b2, o2 + j, none⟩ = some (.int .u8 (X.getD j 0))) := Lib.hid (fun W hW j hj => by
              obtain ⟨b', o', he', _, hcl'⟩ := (HB2.out W hW).cell (by omega)
              have e3 := hAe.symm.trans he'
              simp only [Option.some.injEq, Addr.mk.injEq] at e3
              obtain ⟨e1, e2, _⟩ := e3
              rw [e1, e2]
              exact hcl' j hj)
            subst hAe
            obtain ⟨ROW, hROW⟩ : ∃ ROW, rowU T c n X O = ROW := ⟨_, rfl⟩
            rw [hXz, hROW] at ho
            have HRW2 : Hid (rowU T c n (X.drop 0) O = ROW) := Lib.hid (by rw [List.drop_zero]; exact hROW)
            have HHO := Lib.hid ho
            have HXL := Lib.hid hXl
            have HTR := Lib.hid htr
            have hT0 : (0 : Int) ≤ T := htr.1
            clear hA2 hc2 hX hXz hROW ho hXl hcap hF htr
            go_wp2_with (first
              | (go_at_call 23; with_reducible refine (HAH.out _).mono ?_; (rintro r wa ⟨rfl, hba⟩); have HO := Lib.hid (HO.out.trans (Only.of_below hba gB)); have HRZ := Lib.hid (HRZ.out.keep hba); have kS := HSP.out wa HO.out; have k0 := kS.c0; have k1 := kS.c1; have k2 := kS.c2; (first | (have cb := HC1.out wa (HBO.out wa HO.out)) | skip); clear hba kS))
            go_loopw [9, 12, 59] (fun av _ kv wq => ∃ (v kk : Nat) (Q : List Int), av = .int .i64 v ∧ kv = .int .i64 kk ∧ kk ≤ n ∧ Hid (Q.length = v ∧ v = u + kk) ∧ Hid (rowU T c n (X.drop kk) Q = ROW) ∧ Hid (RZ wq gB L Q) ∧ Hid (Only gB W5 wq)) (fun _ _ kv _ => n - (intOf kv).toNat)
            case atStart => exact ⟨u, 0, O, rfl, rfl, Nat.zero_le _, Lib.hid ⟨HNUM.out.2.2.1, rfl⟩, HRW2, HRZ, HO⟩
            case round =>
              obtain ⟨v, kk, Q, rfl, rfl, hkn, HQN2, HRU2, HRZ2, HO2⟩ := hrel
              by_cases hk1 : kk < n
              · obtain ⟨hQv, hvu⟩ := HQN2.out
                have hvL : v < L := by have := HS12.out; omega
                have hvB : v < 10000 := by have := HLB.out; omega
                have hq2 := HRU2.out
                rw [List.drop_eq_getElem_cons (by rw [HXL.out]; exact hk1), rowU, ← getD_eq X kk (by rw [HXL.out]; exact hk1)] at hq2
                have hxr := getD_rng X HXR.out kk
                have hgr := gsZ_rng T c n Q HRZ2.out.rng Q.length
                have HR1 : Hid (∀ W, RZ W gB L Q → Calls Try.prog F #[rwV (some ⟨gB, 0, none⟩) L L n c, .int .i64 (v : Int)] W fun e w' => e = .returned (.int .u8 (gsZ T c n Q Q.length)) ∧ Below W.heap.size W w') := Lib.hid (fun W hz => by
                  have h := HRL.out v (Q ++ List.replicate (L - Q.length) 0) W hz.byt hvL
                  rw [← hQv, hz.gs T c n (by omega) (by omega), hQv] at h
                  rw [hQv]
                  exact h)
                obtain ⟨G, hG⟩ : ∃ G, gsZ T c n Q Q.length = G := ⟨_, rfl⟩
                obtain ⟨x, hx⟩ : ∃ x, X.getD kk 0 = x := ⟨_, rfl⟩
                rw [hG] at HR1 hgr hq2
                rw [hx] at hxr hq2
                obtain ⟨V, hV⟩ : ∃ V, (x + G) % 256 = V := ⟨_, rfl⟩
                rw [hV] at hq2
                have hVr : 0 ≤ V ∧ V < 256 := by omega
                have wV : IntKind.u8.wrap (x + G) = V := by rw [IntKind.wrap_u8]; exact hV
                have HVR := Lib.hid hVr
                have HRU3 := Lib.hid hq2
                have kR := HRR.out wr HO2.out
                have c0 := kR.c0
                have kA := HAA.out wr HO2.out T F HFR.out
                have cx := HC2.out wr (HBO.out wr HO2.out) kk hk1
                rw [hx] at cx
                have HOd : Hid (Only gB W5 wr.drew) := Lib.hid (HO2.out.drewN 1)
                have HRd := Lib.hid HRZ2.out.drew
                have hkI : (kk : Int) < n := by omega
                have hvI : (v : Int) < L := by omega
                have HQV := Lib.hid hQv
                have HVU := Lib.hid hvu
                have HVL := Lib.hid hvL
                have hT5 : T < 5 := by have := HTR.out; omega
                clear hG hx hV hxr hgr hVr hq2 kR hQv hvu
                go_upto_region 17 with fail
                have HIA : ∀ W, (Instr.indexAt 51 (.pointer (some ⟨gA, 0, none⟩)) (.int .i64 T)).run Try.prog W = .ok (.pointer (some ⟨gA, T.toNat, none⟩)) W := fun W => by
                  rcases HFR.out with ⟨rfl, rfl⟩ | ⟨rfl, rfl⟩ | ⟨rfl, rfl⟩ | ⟨rfl, rfl⟩ | ⟨rfl, rfl⟩ <;> kernel_rfl
                go_region_held3 (fun w' => w'.cell? ⟨g, 0, none⟩ = some (.slice (some ⟨gB, 0, none⟩) L L) ∧ w'.cell? ⟨gA, T.toNat, none⟩ = some (ruV F (rwV (some ⟨gB, 0, none⟩) L L n c))) (first | exact ⟨c0, kA⟩ | exact ⟨d0, kB⟩ | exact ⟨f0, kC⟩ | go_keep)
                 (first
                  | (go_simp; with_reducible refine (HR1.out _ HRd.out).mono ?_; (rintro r wd ⟨rfl, hbd⟩); have HO3 := Lib.hid (HOd.out.trans (Only.of_below hbd gB)); have HRZ3 := Lib.hid (HRd.out.keep hbd); have d0 := (HRR.out wd HO3.out).c0; have kB := HAA.out wd HO3.out T F HFR.out; have st := HRZ3.out.there v HQV.out HVL.out; have fr := HRZ3.out.fr v; have HO4 := Lib.hid (HO3.out.set_ v (.int .u8 V)); have f0 := (HRR.out _ HO4.out).c0; have kC := HAA.out _ HO4.out T F HFR.out; clear hbd))
                go_wp2_with fail
                go_roundw
                case rel => exact ⟨v + 1, kk + 1, _, by go_num, by go_num, by omega, Lib.hid ⟨by rw [List.length_append, HQV.out]; rfl, by have := HVU.out; omega⟩, HRU3, Lib.hid (HRZ3.out.step v HQV.out HVL.out V HVR.out), HO4⟩
                case measure => simp [intOf]; omega
              · obtain rfl : n = kk := by omega
                have hq2 := HRU2.out
                rw [List.drop_of_length_le (by rw [HXL.out]; exact Nat.le_refl _), rowU] at hq2
                subst hq2
                go_wp2_with fail
                go_roundw
                case rel => exact ⟨_, _, q + 1, r + N, m1 - N, f, v, _, rfl, rfl, Lib.hid ⟨HS12.out.1.symm, by have h1 := HQN2.out; have h2 := HS12.out; omega, HQN2.out.1, by have := HNUM.out; omega, HQQ.out, by have := HNUM.out; have := HNE.out; omega⟩, HB3, HHO, HRZ2, HO2⟩
                case measure => simp [slLen]; have := HNE.out; omega
        · have ga : ¬ (ah : Int) > 0 := by omega
          obtain ⟨T, hT⟩ : ∃ T : Int, (1 : Int) = T := ⟨_, rfl⟩
          rw [if_neg hah1, if_neg (by omega), hT] at ho
          have htr : 0 ≤ T ∧ T ≤ 4 := by omega
          clear hqN hqn hOu hrm1 hq0 hmf hah1
          obtain ⟨F, hF⟩ := isRule_ex T htr
          have HFR := Lib.hid hF
          have hcf := rule_cf T F hF
          have HRL := Lib.hid (fun i ps W (hW : Byt W W.heap.size (some ⟨gB, 0, none⟩) L L ps) (hi : i < L) => ruleC T F hF (some ⟨gB, 0, none⟩) L L i n c ps W hW hi (by have := HLB.out; omega) hc hnb)
          have gT : ¬ T > (4 : Int) := by omega
          obtain ⟨X, hX⟩ : ∃ X, ((zs.drop r).drop ah).take n = X := ⟨_, rfl⟩
          have hXz : (zs.drop (r + ah)).take n = X := by rw [← hX, List.drop_drop]
          obtain ⟨A2, hA2⟩ : ∃ A2, cutA A1 c1 ah = A2 := ⟨_, rfl⟩
          obtain ⟨c2, hc2⟩ : ∃ c2, c1 - ah = c2 := ⟨_, rfl⟩
          have HB2 : Hid (∀ W, Below w.heap.size w W → Byt W W.heap.size A2 n c2 X) := Lib.hid (fun W hW => by
            have h := (HB1.out W hW).cut (l := ah) (m := n) (by have := HNE.out; omega)
            rw [hA2, hc2, hX] at h
            exact h)
          have hXl : X.length = n := (HB2.out wr (HBO.out wr HO.out)).len
          have HXR := Lib.hid (HB2.out wr (HBO.out wr HO.out)).rng
          have hcap := (HB1.out wr (HBO.out wr HO.out)).cap
          have HCT : Hid (∀ W, (Instr.slice 23 (.slice A1 m1 c1) (some (.int .i64 (ah : Int))) (some (.int .i64 (N : Int))) none).run Try.prog W = .ok (.slice A2 n c2) W) := Lib.hid (fun W => by
            have h := run_cut (P := Try.prog) W 23 5 Try.underlying23 (fun _ => by kernel_rfl) A1 m1 c1 ah N (by have := HNE.out; omega) (by omega)
            rw [hA2, hc2, show N - ah = n by have := HNE.out; omega] at h
            exact h)
          have hct := HCT.out
          have HCE : Hid (∀ W, (Instr.slice 23 (.slice A1 m1 c1) (some (.int .i64 (N : Int))) none none).run Try.prog W = .ok (.slice (cutA A1 c1 N) (m1 - N) (c1 - N)) W) := Lib.hid (fun W => run_cutE9 (P := Try.prog) W 23 5 Try.underlying23 (fun _ => by kernel_rfl) A1 m1 c1 N (by omega) hcap)
          have hce := HCE.out
          have HB3 : Hid (∀ W, Below w.heap.size w W → Byt W W.heap.size (cutA A1 c1 N) (m1 - N) (c1 - N) (zs.drop (r + N))) := Lib.hid (fun W hW => by
            have h0 := HB1.out W hW
            have h := h0.cut (l := N) (m := m1 - N) (by omega)
            rw [List.drop_drop, List.take_of_length_le (by have := h0.len; rw [List.length_drop] at this ⊢; omega)] at h
            exact h)
          obtain ⟨b2, o2, hAe, _, _⟩ := (HB2.out wr (HBO.out wr HO.out)).cell (by omega)
          have HC2 : Hid (∀ W, Below w.heap.size w W → ∀ j, j < n → W.cell? ⟨b2, o2 + j, none⟩ = some (.int .u8 (X.getD j 0))) := Lib.hid (fun W hW j hj => by
            obtain ⟨b', o', he', _, hcl'⟩ := (HB2.out W hW).cell (by omega)
            have e3 := hAe.symm.trans he'
            simp only [Option.some.injEq, Addr.mk.injEq] at e3
            obtain ⟨e1, e2, _⟩ := e3
            rw [e1, e2]
            exact hcl' j hj)
          subst hAe
          obtain ⟨ROW, hROW⟩ : ∃ ROW, rowU T c n X O = ROW := ⟨_, rfl⟩
          rw [hXz, hROW] at ho
          have HRW2 : Hid (rowU T c n (X.drop 0) O = ROW) := Lib.hid (by rw [List.drop_zero]; exact hROW)
          have HHO := Lib.hid ho
          have HXL := Lib.hid hXl
          have HTR := Lib.hid htr
          have hT0 : (0 : Int) ≤ T := htr.1
          clear hA2 hc2 hX hXz hROW ho hXl hcap hF htr
          go_wp2_with (first
            | (go_at_call 23; with_reducible refine (HAH.out _).mono ?_; (rintro r wa ⟨rfl, hba⟩); have HO := Lib.hid (HO.out.trans (Only.of_below hba gB)); have HRZ := Lib.hid (HRZ.out.keep hba); have kS := HSP.out wa HO.out; have k0 := kS.c0; have k1 := kS.c1; have k2 := kS.c2; (first | (have cb := HC1.out wa (HBO.out wa HO.out)) | skip); clear hba kS))
          go_loopw [9, 12, 59] (fun av _ kv wq => ∃ (v kk : Nat) (Q : List Int), av = .int .i64 v ∧ kv = .int .i64 kk ∧ kk ≤ n ∧ Hid (Q.length = v ∧ v = u + kk) ∧ Hid (rowU T c n (X.drop kk) Q = ROW) ∧ Hid (RZ wq gB L Q) ∧ Hid (Only gB W5 wq)) (fun _ _ kv _ => n - (intOf kv).toNat)
          case atStart => exact ⟨u, 0, O, rfl, rfl, Nat.zero_le _, Lib.hid ⟨HNUM.out.2.2.1, rfl⟩, HRW2, HRZ, HO⟩
          case round =>
            obtain ⟨v, kk, Q, rfl, rfl, hkn, HQN2, HRU2, HRZ2, HO2⟩ := hrel
            by_cases hk1 : kk < n
            · obtain ⟨hQv, hvu⟩ := HQN2.out
              have hvL : v < L := by have := HS12.out; omega
              have hvB : v < 10000 := by have := HLB.out; omega
              have hq2 := HRU2.out
              rw [List.drop_eq_getElem_cons (by rw [HXL.out]; exact hk1), rowU, ← getD_eq X kk (by rw [HXL.out]; exact hk1)] at hq2
              have hxr := getD_rng X HXR.out kk
              have hgr := gsZ_rng T c n Q HRZ2.out.rng Q.length
              have HR1 : Hid (∀ W, RZ W gB L Q → Calls Try.prog F #[rwV (some ⟨gB, 0, none⟩) L L n c, .int .i64 (v : Int)] W fun e w' => e = .returned (.int .u8 (gsZ T c n Q Q.length)) ∧ Below W.heap.size W w') := Lib.hid (fun W hz => by
                have h := HRL.out v (Q ++ List.replicate (L - Q.length) 0) W hz.byt hvL
                rw [← hQv, hz.gs T c n (by omega) (by omega), hQv] at h
                rw [hQv]
                exact h)
              obtain ⟨G, hG⟩ : ∃ G, gsZ T c n Q Q.length = G := ⟨_, rfl⟩
              obtain ⟨x, hx⟩ : ∃ x, X.getD kk 0 = x := ⟨_, rfl⟩
              rw [hG] at HR1 hgr hq2
              rw [hx] at hxr hq2
              obtain ⟨V, hV⟩ : ∃ V, (x + G) % 256 = V := ⟨_, rfl⟩
              rw [hV] at hq2
              have hVr : 0 ≤ V ∧ V < 256 := by omega
              have wV : IntKind.u8.wrap (x + G) = V := by rw [IntKind.wrap_u8]; exact hV
              have HVR := Lib.hid hVr
              have HRU3 := Lib.hid hq2
              have kR := HRR.out wr HO2.out
              have c0 := kR.c0
              have kA := HAA.out wr HO2.out T F HFR.out
              have cx := HC2.out wr (HBO.out wr HO2.out) kk hk1
              rw [hx] at cx
              have HOd : Hid (Only gB W5 wr.drew) := Lib.hid (HO2.out.drewN 1)
              have HRd := Lib.hid HRZ2.out.drew
              have hkI : (kk : Int) < n := by omega
              have hvI : (v : Int) < L := by omega
              have HQV := Lib.hid hQv
              have HVU := Lib.hid hvu
              have HVL := Lib.hid hvL
              have hT5 : T < 5 := by have := HTR.out; omega
              clear hG hx hV hxr hgr hVr hq2 kR hQv hvu
              go_upto_region 17 with fail
              have HIA : ∀ W, (Instr.indexAt 51 (.pointer (some ⟨gA, 0, none⟩)) (.int .i64 T)).run Try.prog W = .ok (.pointer (some ⟨gA, T.toNat, none⟩)) W := fun W => by
                rcases HFR.out with ⟨rfl, rfl⟩ | ⟨rfl, rfl⟩ | ⟨rfl, rfl⟩ | ⟨rfl, rfl⟩ | ⟨rfl, rfl⟩ <;> kernel_rfl
              go_region_held3 (fun w' => w'.cell? ⟨g, 0, none⟩ = some (.slice (some ⟨gB, 0, none⟩) L L) ∧ w'.cell? ⟨gA, T.toNat, none⟩ = some (ruV F (rwV (some ⟨gB, 0, none⟩) L L n c))) (first | exact ⟨c0, kA⟩ | exact ⟨d0, kB⟩ | exact ⟨f0, kC⟩ | go_keep)
               (first
                | (go_simp; with_reducible refine (HR1.out _ HRd.out).mono ?_; (rintro r wd ⟨rfl, hbd⟩); have HO3 := Lib.hid (HOd.out.trans (Only.of_below hbd gB)); have HRZ3 := Lib.hid (HRd.out.keep hbd); have d0 := (HRR.out wd HO3.out).c0; have kB := HAA.out wd HO3.out T F HFR.out; have st := HRZ3.out.there v HQV.out HVL.out; have fr := HRZ3.out.fr v; have HO4 := Lib.hid (HO3.out.set_ v (.int .u8 V)); have f0 := (HRR.out _ HO4.out).c0; have kC := HAA.out _ HO4.out T F HFR.out; clear hbd))
              go_wp2_with fail
              go_roundw
              case rel => exact ⟨v + 1, kk + 1, _, by go_num, by go_num, by omega, Lib.hid ⟨by rw [List.length_append, HQV.out]; rfl, by have := HVU.out; omega⟩, HRU3, Lib.hid (HRZ3.out.step v HQV.out HVL.out V HVR.out), HO4⟩
              case measure => simp [intOf]; omega
            · obtain rfl : n = kk := by omega
              have hq2 := HRU2.out
              rw [List.drop_of_length_le (by rw [HXL.out]; exact Nat.le_refl _), rowU] at hq2
              subst hq2
              go_wp2_with fail
              go_roundw
              case rel => exact ⟨_, _, q + 1, r + N, m1 - N, f, v, _, rfl, rfl, Lib.hid ⟨HS12.out.1.symm, by have h1 := HQN2.out; have h2 := HS12.out; omega, HQN2.out.1, by have := HNUM.out; omega, HQQ.out, by have := HNUM.out; have := HNE.out; omega⟩, HB3, HHO, HRZ2, HO2⟩
              case measure => simp [slLen]; have := HNE.out; omega
      · obtain rfl : m1 = 0 := by omega
        obtain ⟨hqN, hqn, hOu, hrm1, hq0, hmf⟩ := HNUM.out
        have hqq : q = q0 := by
          have h2 : q * N = q0 * N := by rw [hqN, HQN.out]; omega
          exact Nat.eq_of_mul_eq_mul_right (by have := HNE.out; omega) h2
        have hOL : O.length = L := by rw [hOu, ← hqn, hqq, HLL.out]
        have hRO : (O, 0) = R := by
          rw [← HU.out]
          rcases f0 with _ | f
          · rfl
          · rw [undF, if_neg (by rw [HLEN.out]; omega)]
        have hcell := HRZ.out.cell
        rw [hOL, Nat.sub_self, List.replicate_zero, List.append_nil] at hcell
        have HBT := Lib.hid (own_byt _ gB L O hcell hOL HRZ.out.rng)
        have HRO := Lib.hid hRO
        have HOL := Lib.hid hOL
        have kR := HRR.out wr HO.out
        have c0 := kR.c0
        clear hqN hqn hOu hrm1 hq0 hmf hqq hRO hcell hOL kR h1
        go_wp2_with fail
        go_ret2
        rw [← HRO.out]
        exact RdP.of_own (HBO.out wr HO.out) HBT.out HOL.out
  · have er3 : ((rm : Int) != 0) = true := by simp [hrm0]
    rw [if_pos hrm0] at hR
    subst hR
    clear hrm hrm0
    go_enter Try.func18, Try.ntmps18
    go_upto_region 1 with fail
    go_region_held3 (fun w' => w'.cell? ⟨w.heap.size, 0, none⟩ = some (.int .i64 P) ∧ w'.cell? ⟨w.heap.size, 1, none⟩ = some (.int .i64 c) ∧ w'.cell? ⟨w.heap.size, 2, none⟩ = some (.int .i64 k)) (first | exact ⟨c0, c1, c2⟩ | exact ⟨d0, d1, d2⟩ | exact ⟨e0, e1, e2⟩ | go_keep)
     (first
      | (go_simp; go_at_call 23; with_reducible refine (HAH.out _).mono ?_; (rintro r w2 ⟨rfl, hb2⟩); have HB2 := Lib.hid (HB.out.trans (hb2.mono HB.out.size)); have HS2 := Lib.hid (HS.out.below hb2 HS.out.lt); have d0 := HS2.out.c0; have d1 := HS2.out.c1; have d2 := HS2.out.c2; clear hb2)
      | (go_simp; go_at_call 24; with_reducible refine (HRW.out _).mono ?_; (rintro r w3 ⟨rfl, hb3⟩); have HB3 := Lib.hid (HB2.out.trans (hb3.mono HB2.out.size)); have HS3 := Lib.hid (HS2.out.below hb3 HS2.out.lt); have e0 := HS3.out.c0; have e1 := HS3.out.c1; have e2 := HS3.out.c2; clear hb3))
    go_wp2_with fail
    go_ret2
    exact RdP.of_bad 4 HB3.out
end Go.Proofs.Ytagkjndiifcekaa
