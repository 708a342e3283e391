/- Chapter 10: the project's rising: entries by rising keys, in new memory. -/
import Derived.Test.YtkloipjkialakaaSu10
import Derived.Test.YtkloipjkialakaaCz10
namespace Go.Proofs.Ytkloipjkialakaa
open Go.RowKit Go.Sort
set_option linter.unusedVariables false
set_option maxRecDepth 100000

/-- The cells of rows. -/
def flatR (rs : List Rw) : List Value := rs.flatMap encR
theorem flatR_nil : flatR [] = [] := rfl
theorem flatR_cons (r : Rw) (rs : List Rw) : flatR (r :: rs) = encR r ++ flatR rs := by unfold flatR; rw [List.flatMap_cons]
theorem flatR_app (a b : List Rw) : flatR (a ++ b) = flatR a ++ flatR b := by unfold flatR; rw [List.flatMap_append]
theorem flatR_len : ∀ rs : List Rw, (flatR rs).length = rs.length * 6
  | [] => rfl
  | r :: rs => by rw [flatR_cons, List.length_append, flatR_len rs, encR_len, List.length_cons]; omega
theorem flatR_one (rs : List Rw) : ∀ u ∈ flatR rs, u.oneCell' = true := fun u hu => by
  unfold flatR at hu
  obtain ⟨r, _, hr⟩ := List.mem_flatMap.1 hu
  exact encR_one r u hr
theorem flatR_get : ∀ (rs : List Rw) (i : Nat) (r : Rw) (c : Nat), rs[i]? = some r → c < 6 → (flatR rs)[i * 6 + c]? = (encR r)[c]?
  | [], i, r, c, h, _ => by simp at h
  | q :: rs, 0, r, c, h, hc => by
    simp at h; subst h
    rw [flatR_cons, Nat.zero_mul, Nat.zero_add, List.getElem?_append_left (by rw [encR_len]; exact hc)]
  | q :: rs, i + 1, r, c, h, hc => by
    rw [flatR_cons, List.getElem?_append_right (by rw [encR_len]; omega), encR_len, show (i + 1) * 6 + c - 6 = i * 6 + c by omega]
    exact flatR_get rs i r c (by simpa using h) hc
theorem CellsAt.six {w : World} {g o : Nat} {rs : List Rw} (h : CellsAt w g o (flatR rs)) (i : Nat) (r : Rw) (hi : rs[i]? = some r) :
    w.cell? ⟨g, o + i * 6, none⟩ = some (.string r.s) ∧ w.cell? ⟨g, o + i * 6 + 1, none⟩ = some (.int .i64 r.k) ∧ w.cell? ⟨g, o + i * 6 + 2, none⟩ = some (.int .i64 r.n) ∧ w.cell? ⟨g, o + i * 6 + 3, none⟩ = some (.slice r.A2 r.m2 r.c2) ∧ w.cell? ⟨g, o + i * 6 + 4, none⟩ = some (.slice r.A3 r.m3 r.c3) ∧ w.cell? ⟨g, o + i * 6 + 5, none⟩ = some (.slice r.A4 r.m4 r.c4) := by
  have e := fun c hc => flatR_get rs i r c hi hc
  have k := fun c u (hc : c < 6) (hu : (encR r)[c]? = some u) => h (i * 6 + c) u ((e c hc).trans hu)
  refine ⟨k 0 _ (by omega) rfl, ?_, ?_, ?_, ?_, ?_⟩
  · have := k 1 _ (by omega) rfl; rwa [← Nat.add_assoc] at this
  · have := k 2 _ (by omega) rfl; rwa [← Nat.add_assoc] at this
  · have := k 3 _ (by omega) rfl; rwa [← Nat.add_assoc] at this
  · have := k 4 _ (by omega) rfl; rwa [← Nat.add_assoc] at this
  · have := k 5 _ (by omega) rfl; rwa [← Nat.add_assoc] at this
theorem flatK_get (d : Array Rw) (j : Nat) (hj : j < d.size * 6) : (flatR d.toList)[j]? = some ((flatK encR 6 d)[j]!) := by
  have hi : j / 6 < d.size := by omega
  have h1 := flatR_get d.toList (j / 6) (d[j / 6]'hi) (j % 6) (by simp [hi]) (by omega)
  rw [show j / 6 * 6 + j % 6 = j by omega] at h1
  rw [h1, get_flatK _ _ _ _ hj, getElem!_pos d _ hi]
  have : j % 6 < (encR (d[j / 6]'hi)).length := by rw [encR_len]; omega
  rw [List.getElem?_eq_getElem this]
  congr 1
  exact (getElem!_pos (encR (d[j / 6]'hi)) (j % 6) this).symm
theorem holdsK_flat {w : World} {g : Nat} {d : Array Rw} (h : CellsAt w g 0 (flatR d.toList)) (hsh : ∃ cur T, w.heap[g]? = some (.cells cur T (0, 0))) : HoldsK encR 6 w g 0 d := by
  intro j hj
  rw [size_flatK] at hj
  refine ⟨h j _ (flatK_get d j hj), ?_⟩
  obtain ⟨cur, T, e⟩ := hsh
  simp [World.frozen?, e]
theorem flat_holdsK {w : World} {g : Nat} {d : Array Rw} (h : HoldsK encR 6 w g 0 d) : CellsAt w g 0 (flatR d.toList) := by
  intro j u hj
  have hjl := (List.getElem?_eq_some_iff.1 hj).1
  rw [flatR_len, Array.length_toList] at hjl
  have h1 := (h j (by rw [size_flatK]; exact hjl)).1
  rw [flatK_get d j hjl] at hj
  rw [h1]
  exact hj
theorem insertC0 (v f : Value) (w : World) : Calls Try.prog 97 #[v, .int .i64 0, .int .i64 0, f] w fun e w' => e = .returned (.tuple #[]) ∧ w = w' := by
  go_enter Try.func97, Try.ntmps97
  go_wp2
  go_loop [8] (fun iv => iv = .int .i64 1) (fun _ => 0)
  case atStart => exact rfl
  case round =>
    obtain rfl := hrel
    go_wp2
    go_end0
    exact ⟨rfl, rfl⟩
theorem stableC0 (v f : Value) (w : World) : Calls Try.prog 92 #[v, .int .i64 0, f] w fun e w' => e = .returned (.tuple #[]) ∧ w = w' := by
  go_enter Try.func92, Try.ntmps92
  go_wp2_with fail
  go_loop [7, 8] (fun av bv => av = .int .i64 0 ∧ bv = .int .i64 20) (fun _ _ => 0)
  case atStart => exact ⟨rfl, rfl⟩
  case round =>
    obtain ⟨rfl, rfl⟩ := hrel
    go_wp2_with (go_at_call 97; refine (insertC0 _ _ _).mono ?_; rintro e w' ⟨rfl, rfl⟩)
    go_loop [6] (fun sv => sv = .int .i64 20) (fun _ => 0)
    case atStart => exact rfl
    case round =>
      obtain rfl := hrel
      go_wp2_with fail
      go_end0
      exact ⟨rfl, rfl⟩
theorem sortC0 (f : Value) (w : World) : Calls Try.prog 80 #[.slice none 0 0, f] w fun e w' => e = .returned (.tuple #[]) ∧ w = w' := by
  go_enter Try.func80, Try.ntmps80
  go_wp2_with (go_at_call 92; refine (stableC0 _ _ _).mono ?_; rintro e w' ⟨rfl, rfl⟩)
  go_end0
  exact ⟨rfl, rfl⟩
theorem sortC (w0 : World) (blk cap B : Nat) (d : Array Rw) (N : Nat) (hC : CmpOk w0 blk B) (hN : d.size = N) (hH : HoldsK encR 6 w0 blk 0 d) (hblk : blk < w0.heap.size) (hsz : N < 1000000000000) :
    Calls Try.prog 80 #[.slice (some ⟨blk, 0, none⟩) N cap, cmpF B] w0 fun e w' => e = .returned (.tuple #[]) ∧ ∃ d' : Array Rw, Srt keyR d'.toList ∧ Stb keyR d.toList d'.toList ∧ d'.size = N ∧ CellsAt w' blk 0 (flatR d'.toList) ∧ Only blk w0 w' := by
  have R : RW6 w0 blk 0 d := ⟨encR_len, encR_one, hH, hblk⟩
  have HST := Lib.hid (stableC w0 blk 0 cap B d d N w0 R hC hN.symm hN (SWK.start hH) hsz)
  have HR := Lib.hid R
  have HN := Lib.hid hN
  clear hC hH R hN hblk
  go_enter Try.func80, Try.ntmps80
  go_wp2_with (go_at_call 92; (with_reducible refine HST.out.mono ?_); (rintro e w' ⟨rfl, d', h1, h2, h3, h4⟩); have H1 := Lib.hid h1; have H2 := Lib.hid h2; have H3 := Lib.hid h3; have H4 := Lib.hid h4; clear h1 h2 h3 h4 HST)
  go_end0
  exact ⟨rfl, d', H1.out, H2.out, H3.out, flat_holdsK (SW6.holds H4.out HR.out (by rw [H3.out, HN.out])), SW6.only H4.out⟩
/-- A slice of rows. -/
def RowsV (w : World) (A : Option Addr) (rs : List Rw) : Prop := 0 < rs.length → ∃ g o, A = some ⟨g, o, none⟩ ∧ g < w.heap.size ∧ CellsAt w g o (flatR rs)
theorem RowsV.below {w w' : World} {A : Option Addr} {rs : List Rw} (h : RowsV w A rs) (hb : Below w.heap.size w w') : RowsV w' A rs := fun h0 => by
  obtain ⟨g, o, e, hg, hc⟩ := h h0
  exact ⟨g, o, e, Nat.lt_of_lt_of_le hg hb.size, fun j u hj => (World.cell?_of_block (a := ⟨g, o + j, none⟩) (hb.block g hg)).trans (hc j u hj)⟩
/-- What rising leaves. -/
def RisP (rs : List Rw) (w : World) (e : Ending) (w' : World) : Prop := ∃ A c rs', e = .returned (.slice A rs.length c) ∧ Srt keyR rs' ∧ Stb keyR rs rs' ∧ rs.length ≤ c ∧ (0 < rs.length → ∃ g, A = some ⟨g, 0, none⟩ ∧ w.heap.size ≤ g ∧ g < w'.heap.size ∧ CellsAt w' g 0 (flatR rs')) ∧ Below w.heap.size w w'
set_option maxHeartbeats 1000000 in
theorem risingR (rs : List Rw) (A : Option Addr) (c : Nat) (w : World) (hA : RowsV w A rs) (hlen : rs.length ≤ 1000000000) :
    Calls Try.prog 58 #[.slice A rs.length c, .func (.func 59) #[] #[]] w (RisP rs w) := by
  have hb1 := (Below.refl w.heap.size w).alloc (Nat.le_refl _) (.cells #[.func (.func 59) #[] #[]] 70)
  have hn1 := heap_alloc_new w (.cells #[.func (.func 59) #[] #[]] 70)
  have hs1 : (w.alloc (.cells #[.func (.func 59) #[] #[]] 70)).heap.size = w.heap.size + 1 := by simp
  obtain ⟨W1, hW1⟩ : ∃ W1, w.alloc (.cells #[.func (.func 59) #[] #[]] 70) = W1 := ⟨_, rfl⟩
  rw [hW1] at hb1 hn1 hs1
  have HAN := Lib.hid (anewE A rs.length c (flatR rs) W1 (flatR_len rs) (fun h0 => by
    obtain ⟨g, o, e, _, hc⟩ := hA.below hb1 h0
    exact ⟨g, o, e, hc⟩) (flatR_one rs) (by omega))
  have HB1 := Lib.hid hb1
  have HN1 := Lib.hid hn1
  have HS1 := Lib.hid hs1
  obtain ⟨N, hN⟩ : ∃ N, rs.length = N := ⟨_, rfl⟩
  rw [hN] at HAN hlen ⊢
  have HN := Lib.hid hN
  clear hb1 hn1 hs1 hA hN
  by_cases h0 : N = 0
  · have H0 := Lib.hid h0
    clear h0
    go_enter Try.func58, Try.ntmps58
    go_wp2_with (first | (go_at_call 52; (with_reducible refine HAN.out.mono ?_); (rintro r W2 ⟨A2, c2, rfl, o2, b2, h2⟩); (obtain ⟨rfl, rfl⟩ := h2 H0.out); have HB2 := Lib.hid b2; clear o2 b2 h2 HAN) | (go_at_call 80; rw [H0.out]; refine (sortC0 _ _).mono ?_; rintro e w' ⟨rfl, rfl⟩))
    go_ret
    have hr : rs = [] := List.eq_nil_of_length_eq_zero (by rw [HN.out]; exact H0.out)
    subst hr
    exact ⟨none, 0, [], rfl, Srt.nil, Stb.refl _, by simp, fun h => by simp at h, HB1.out.trans (HB2.out.mono HB1.out.size)⟩
  · have H0 : Hid (0 < N) := Lib.hid (by omega)
    clear h0
    have HSO : Hid (∀ W2 A2 c2, W2.ownsRow W1.heap.size 32 6 (.slice A2 N c2) N (flatR rs) → Below W1.heap.size W1 W2 → Calls Try.prog 80 #[.slice A2 N c2, cmpF w.heap.size] W2 fun e w' => e = .returned (.tuple #[]) ∧ ∃ (rs' : List Rw) (g : Nat), A2 = some ⟨g, 0, none⟩ ∧ w.heap.size ≤ g ∧ g < w'.heap.size ∧ Srt keyR rs' ∧ Stb keyR rs rs' ∧ CellsAt w' g 0 (flatR rs') ∧ Only g W2 w' ∧ W1.heap.size ≤ g ∧ g < W2.heap.size) := Lib.hid (fun W2 A2 c2 ho hb => by
      obtain ⟨g, e, h1, h2, h3, h4⟩ := row_block ho H0.out
      subst e
      have hs1 := HS1.out
      have hC : CmpOk W2 g w.heap.size := ⟨by have := hb.size; omega, by omega, by
        rw [World.cell?_of_block (a := ⟨w.heap.size, 0, none⟩) (hb.block w.heap.size (by omega)), cell_of_row _ _ 0 _ _ (0, 0) HN1.out]; rfl⟩
      refine (sortC W2 g c2 w.heap.size rs.toArray N hC (by simp; exact HN.out) (holdsK_flat h4 h3) h2 (by omega)).mono ?_
      rintro e w' ⟨rfl, d', k1, k2, k3, k4, k5⟩
      exact ⟨rfl, d'.toList, g, rfl, by omega, Nat.lt_of_lt_of_le h2 k5.size, k1, by simpa using k2, k4, k5, h1, h2⟩)
    go_enter Try.func58, Try.ntmps58
    go_wp2_with (first | (go_at_call 52; (with_reducible refine HAN.out.mono ?_); (rintro r W2 ⟨A2, c2, rfl, o2, b2, h2⟩); have HO2 := Lib.hid o2; have HB2 := Lib.hid b2; clear o2 b2 h2 HAN) | (go_at_call 80; (with_reducible refine (HSO.out W2 A2 c2 HO2.out HB2.out).mono ?_); (rintro e w' ⟨rfl, rs', g, eA, p1, p2, p3, p4, p5, p6, p7, p8⟩); have HE := Lib.hid eA; have P1 := Lib.hid p1; have P2 := Lib.hid p2; have P3 := Lib.hid p3; have P4 := Lib.hid p4; have P5 := Lib.hid p5; have P6 := Lib.hid p6; have P7 := Lib.hid p7; have P8 := Lib.hid p8; clear eA p1 p2 p3 p4 p5 p6 p7 p8 HSO))
    go_ret
    exact ⟨A2, c2, rs', by rw [HN.out]; rfl, P3.out, P4.out, by rw [HN.out]; exact (row_cap HO2.out).1, fun _ => ⟨g, HE.out, P1.out, P2.out, P5.out⟩, (HB1.out.trans (HB2.out.mono HB1.out.size)).trans ((P6.out.below (Nat.le_of_lt P8.out)).mono P1.out)⟩
end Go.Proofs.Ytkloipjkialakaa
