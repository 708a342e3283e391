/- DeflateRows: whatever bits are put: all of them, the lowest first. No condition on the input. -/
import Derived.Test.YtkbgneadhbpcaaaLaw5Do
import Derived.Test.YtkbgneadhbpcaaaRow5A
namespace Go.Proofs.Ytkbgneadhbpcaaa
open Go.ChangeShapes Go.WideShapes Go.ChangeAt Go.RowKit Go.Deep
set_option linter.unusedVariables false
set_option maxRecDepth 100000

section
variable {H : Type} {enc : TypeId × Value → H} {W : World} {base : Nat} {sp : Nat → Bool} {held : Bool}
/-- A slice of deeds, opened. -/
theorem open_deeds {A : Option Addr} {len cap : Nat} {d : DataW H} {p : List MemPlace} (h : DataW.Trod enc Try.prog W base sp held 32 (.slice A len cap) d p) (hsp : ∀ b, sp b = true) :
    ∃ (D N M : Nat → Int), len ≤ 9223372036854775807 ∧ (∀ i, i < len → -9223372036854775808 ≤ N i ∧ N i ≤ 9223372036854775807) ∧ (0 < len → ∃ b o, A = some ⟨b, o, none⟩ ∧ b < W.heap.size ∧ ∀ i, i < len → W.cell? ⟨b, o + i * 3, none⟩ = some (.int .i64 (D i)) ∧ W.cell? ⟨b, o + i * 3 + 1, none⟩ = some (.int .i64 (N i)) ∧ W.cell? ⟨b, o + i * 3 + 2, none⟩ = some (.int .i64 (M i))) := by
  obtain ⟨fuel, hf⟩ := h
  rcases open_slice Try.underlying32 hf with ⟨hcs, _⟩ | ⟨a, l, c, m, n, D, Pl, hcs, _, hl, hm, hmm, _, hi⟩
  · simp [Value.cells] at hcs
    obtain ⟨rfl, rfl, rfl⟩ := hcs
    exact ⟨fun _ => 0, fun _ => 0, fun _ => 0, by omega, fun i h => absurd h (by omega), fun h => absurd h (by omega)⟩
  · simp [Value.cells] at hcs
    obtain ⟨rfl, rfl, rfl⟩ := hcs
    have hC : Try.prog.cellsOf 37 = 3 := by kernel_rfl
    have hmx : maxLen = 9223372036854775807 := by decide
    rw [hsp] at hmm
    have one : ∀ i, i < len → ∃ (x y z : Int), W.cell? ((a.add (i * 3)).add 0) = some (.int .i64 x) ∧ W.cell? ((a.add (i * 3)).add 1) = some (.int .i64 y) ∧ W.cell? ((a.add (i * 3)).add 2) = some (.int .i64 z) ∧ -9223372036854775808 ≤ y ∧ y ≤ 9223372036854775807 := by
      intro i him
      obtain ⟨cs', hc, ht'⟩ := hi i (by simp at hmm; omega)
      rw [hC] at hc
      obtain ⟨ys, n', hn', hy, hlen, hyl, hfl⟩ := DataW.trod_struct Try.underlying37 ht'
      obtain ⟨_, hcl, hat⟩ := World.cells?_some hc
      match cs', hcl with
      | [c0, c1, c2], _ =>
        have hys : ys.length = 3 := hyl
        have h3 : Try.prog.cellsOf 3 = 1 := by kernel_rfl
        have f0 : DataW.trod enc Try.prog W base sp held n' 3 (List.take (Try.prog.cellsOf 3) [c0, c1, c2]) = ys[0]? := hfl 0 _ rfl
        have f1 : DataW.trod enc Try.prog W base sp held n' 3 (List.take (Try.prog.cellsOf 3) [c1, c2]) = ys[1]? := hfl 1 _ rfl
        have f2 : DataW.trod enc Try.prog W base sp held n' 3 (List.take (Try.prog.cellsOf 3) [c2]) = ys[2]? := hfl 2 _ rfl
        rw [h3, List.getElem?_eq_getElem (by omega)] at f0 f1 f2
        obtain ⟨x, e0, _, _⟩ := DataW.trod_int Try.underlying3 f0
        obtain ⟨y, e1, hy1, hy2⟩ := DataW.trod_int Try.underlying3 f1
        obtain ⟨z, e2, _, _⟩ := DataW.trod_int Try.underlying3 f2
        simp at e0 e1 e2
        subst e0 e1 e2
        simp [Lit.wf] at hy2
        have hy3 : -9223372036854775808 ≤ y ∧ y ≤ 9223372036854775807 := hy2
        exact ⟨x, y, z, hat 0 (by omega), hat 1 (by omega), hat 2 (by omega), hy3.1, hy3.2⟩
    have hlen : len ≤ 9223372036854775807 := by omega
    rcases Nat.eq_zero_or_pos len with h0 | h0
    · exact ⟨fun _ => 0, fun _ => 0, fun _ => 0, hlen, fun i h => absurd h (by omega), fun h => absurd h (by omega)⟩
    obtain ⟨x, _, _, hx, _⟩ := one 0 h0
    obtain ⟨b, o, spot⟩ := a
    obtain rfl : spot = none := by simpa [Addr.add] using World.cell?_spot hx
    have hbl : b < W.heap.size := by have := cell_lt hx; simpa [Addr.add] using this
    have two : ∀ i, ∃ (x y z : Int), i < len → W.cell? ⟨b, o + i * 3, none⟩ = some (.int .i64 x) ∧ W.cell? ⟨b, o + i * 3 + 1, none⟩ = some (.int .i64 y) ∧ W.cell? ⟨b, o + i * 3 + 2, none⟩ = some (.int .i64 z) ∧ -9223372036854775808 ≤ y ∧ y ≤ 9223372036854775807 := by
      intro i
      rcases Nat.lt_or_ge i len with hlt | hge
      · obtain ⟨x, y, z, e0, e1, e2, e3⟩ := one i hlt
        simp only [add_plain, Nat.add_zero] at e0 e1 e2
        exact ⟨x, y, z, fun _ => ⟨e0, e1, e2, e3⟩⟩
      · exact ⟨0, 0, 0, fun h => absurd h (by omega)⟩
    refine ⟨fun i => (two i).choose, fun i => (two i).choose_spec.choose, fun i => (two i).choose_spec.choose_spec.choose, hlen, fun i hlt => ?_, fun _ => ⟨b, o, rfl, hbl, fun i hlt => ?_⟩⟩
    · exact ((two i).choose_spec.choose_spec.choose_spec hlt).2.2.2
    · have h := (two i).choose_spec.choose_spec.choose_spec hlt
      exact ⟨h.1, h.2.1, h.2.2.1⟩
end
/-- The slice '.slice A n c' holds n deeds below block B. -/
def Deeds (w : World) (B : Nat) (A : Option Addr) (n : Nat) (D N M : Nat → Int) : Prop :=
  0 < n → ∃ b o, A = some ⟨b, o, none⟩ ∧ b < B ∧ ∀ i, i < n → w.cell? ⟨b, o + i * 3, none⟩ = some (.int .i64 (D i)) ∧ w.cell? ⟨b, o + i * 3 + 1, none⟩ = some (.int .i64 (N i)) ∧ w.cell? ⟨b, o + i * 3 + 2, none⟩ = some (.int .i64 (M i))

theorem Deeds.below {w w' : World} {B : Nat} {A : Option Addr} {n : Nat} {D N M : Nat → Int} (h : Deeds w B A n D N M) (hb : Below B w w') : Deeds w' B A n D N M := fun hn => by
  obtain ⟨b, o, e, hlt, hc⟩ := h hn
  refine ⟨b, o, e, hlt, fun i hi => ?_⟩
  obtain ⟨h0, h1, h2⟩ := hc i hi
  exact ⟨(hb.cell (p := ⟨b, o + i * 3, none⟩) hlt).trans h0, (hb.cell (p := ⟨b, o + i * 3 + 1, none⟩) hlt).trans h1, (hb.cell (p := ⟨b, o + i * 3 + 2, none⟩) hlt).trans h2⟩
theorem RRow.ownB {w : World} {B k : Nat} {v : Value} {L : List Int} (h : RRow w B k v L) (b : Nat) (hb : v.ownBlock = some b) : B ≤ b ∧ b < w.heap.size := by
  refine ⟨?_, h.row.lt b hb⟩
  rcases h.row.own.2 with ⟨rfl, _⟩ | ⟨b', cap, cur, rfl, hb', _⟩
  · cases hb
  · injection hb with hb; dsimp only at hb; omega
/-- The two rows, side by side. -/
structure RI (w wr : World) (g rb : Nat) (bs : List Nat) (u : Value) (L M : List Int) : Prop where
  pw : PW wr g 26 bs L
  rr : RRow wr rb rb u M
  gr : g < rb
  wg : w.heap.size ≤ g
  dis : ∀ b, b ∈ bs → b ≠ rb ∧ u.ownBlock ≠ some b
  bel : Below w.heap.size w wr
section
variable {w wr w' : World} {g rb : Nat} {bs bs' : List Nat} {u u' : Value} {L L' M M' : List Int}
theorem RI.step1 (h : RI w wr g rb bs u L M) (hp : PW w' g 26 bs' L') (ho : Only g wr w') (hb : ∀ b, b ∈ bs' → b ∈ bs ∨ wr.heap.size ≤ b) : RI w w' g rb bs' u L' M := by
  have hgr := h.gr
  have hlt := h.rr.lt
  refine ⟨hp, h.rr.keep fun i hi hor => ho.block i hi ?_, h.gr, h.wg, fun b hm => ?_, h.bel.trans (ho.belowB h.wg (by omega))⟩
  · rcases hor with rfl | hor
    · omega
    · have := (h.rr.ownB i hor).1; omega
  · rcases hb b hm with h1 | h1
    · exact h.dis b h1
    · refine ⟨by omega, fun e => ?_⟩
      have := (h.rr.ownB b e).2
      omega
theorem RI.step2 (h : RI w wr g rb bs u L M) (hr : RRow w' rb rb u' M') (hm : RMov wr w' rb u u') : RI w w' g rb bs u' L M' := by
  have hgr := h.gr
  have hlt := h.rr.lt
  refine ⟨h.pw.keep hm.size fun i hi => ?_, hr, h.gr, h.wg, fun b hb => ⟨(h.dis b hb).1, fun e => ?_⟩, h.bel.trans ((hm.below h.rr (by omega)).mono (by have := h.wg; omega))⟩
  · rcases hi with rfl | hi
    · refine hm.block i (by omega) (by omega) fun e => ?_
      have := (h.rr.ownB i e).1
      omega
    · exact hm.block i (h.pw.ne i hi).2 (h.dis i hi).1 (h.dis i hi).2
  · rcases hm.own b e with h1 | h1
    · exact (h.dis b hb).2 h1
    · have := (h.pw.ne b hb).2
      omega
theorem RI.more (h : RI w wr g rb bs u L M) (hb : Below wr.heap.size wr w') : RI w w' g rb bs u L M := by
  have hlt := h.rr.lt
  have hgr := h.gr
  have hwg := h.wg
  exact ⟨h.pw.more hb, h.rr.more hb, h.gr, h.wg, h.dis, h.bel.trans (hb.mono (by omega))⟩
theorem RI.drewN (h : RI w wr g rb bs u L M) (q : Nat) : RI w (wr.drewN q) g rb bs u L M := ⟨h.pw.drewN q, h.rr.drewN q, h.gr, h.wg, h.dis, below_drewN h.bel q⟩
end
theorem putB_len (L : List Int) (n k : Int) : (putB L n k).length ≤ L.length + 16 := by
  unfold putB
  split
  · rw [List.length_append, lowb_len]; omega
  · omega
theorem pw_row (w : World) : PW (w.alloc (.cells Try.zeroCells26 26)) w.heap.size 26 [] [] := by
  refine ⟨⟨.pointer none, List.replicate 256 0, ⟨?_, by simp, ⟨rfl, rfl⟩, rfl, rfl, fun b hb => (by cases hb), fun z hz => (by cases hz)⟩⟩, B01.nil⟩
  rw [heap_alloc_new w]
  rfl
theorem ri_new (w w0 : World) (hb : Below w.heap.size w w0) : RI w ((w0.alloc (.cells Try.zeroCells26 26)).alloc (.cells #[.slice none 0 0, .int .i64 0] 35)) w0.heap.size (w0.heap.size + 1) [] (.slice none 0 0) [] [] := by
  have e : (w0.alloc (.cells Try.zeroCells26 26)).heap.size = w0.heap.size + 1 := World.size_alloc w0 _
  refine ⟨(pw_row w0).more ((Below.refl _ _).alloc (Nat.le_refl _) _), ?_, by omega, hb.size, fun b hb => (by cases hb), ((hb.alloc hb.size _).alloc (by rw [e]; exact Nat.le_succ_of_le hb.size) _)⟩
  rw [← e]
  exact ⟨heap_alloc_new _ _, Mine.nil _ _, B01.nil, by simp [Value.ownBlock], Nat.le_refl _⟩
set_option maxHeartbeats 4000000 in
theorem rows_walk (A : Option Addr) (n c : Nat) (D N M : Nat → Int) (w : World) (hd : Deeds w w.heap.size A n D N M) (hnr : ∀ i, i < n → -9223372036854775808 ≤ N i ∧ N i ≤ 9223372036854775807) (hn : n ≤ 9223372036854775807) :
    Calls Try.prog 4 #[.slice A n c] w fun e w' => e = .returned (.bool true) ∧ Below w.heap.size w w' := by
  have HAW := Lib.hid (awake_any w)
  by_cases hok : n ≤ 200
  · have HD := Lib.hid hd
    have HNR := Lib.hid hnr
    have hni : ¬ (200 : Int) < n := by omega
    clear hd hnr
    go_enter Try.func4, Try.ntmps4
    go_upto_region 8 with (go_at_call 9; refine HAW.out.mono ?_; (rintro r w0 ⟨rfl, hb0⟩); have HI0 := Lib.hid (ri_new w w0 hb0); clear hb0)
    obtain ⟨g, hg⟩ : ∃ g, w0.heap.size = g := ⟨_, rfl⟩
    obtain ⟨W2, hW2⟩ : ∃ W2, (w0.alloc (.cells Try.zeroCells26 26)).alloc (.cells #[.slice none 0 0, .int .i64 0] 35) = W2 := ⟨_, rfl⟩
    rw [hg, hW2] at HI0
    rw [hg, hW2]
    obtain ⟨rb, hrb⟩ : ∃ rb, g + 1 = rb := ⟨_, rfl⟩
    rw [hrb] at HI0 ⊢
    clear HAW hg hW2 hrb
    go_loopw [5] (fun iv wr => ∃ (i : Nat) (bs : List Nat) (u : Value) (L : List Int), i ≤ n ∧ iv = .int .i64 i ∧ Hid (RI w wr g rb bs u L L) ∧ Hid (L.length ≤ 16 * i)) (fun iv _ => n - (intOf iv).toNat)
    case atStart => exact ⟨0, [], _, [], Nat.zero_le _, rfl, HI0, Lib.hid (by simp)⟩
    case round =>
      obtain ⟨i, bs, u, L, hi, rfl, HI, HL⟩ := hrel
      by_cases hlt : i < n
      · obtain ⟨b, o, rfl, hbl, _⟩ := HD.out (by omega)
        have HCELL : Hid (∀ W, Below w.heap.size w W → W.cell? ⟨b, o + i * 3, none⟩ = some (.int .i64 (D i)) ∧ W.cell? ⟨b, o + i * 3 + 1, none⟩ = some (.int .i64 (N i)) ∧ W.cell? ⟨b, o + i * 3 + 2, none⟩ = some (.int .i64 (M i))) := Lib.hid fun W hW => by
          obtain ⟨b', o', e, _, hc⟩ := (HD.out.below hW) (by omega)
          injection e with e
          injection e with e1 e2
          subst e1 e2
          exact hc i hlt
        have hnr := HNR.out i hlt
        obtain ⟨d, hdd⟩ : ∃ d, D i = d := ⟨_, rfl⟩
        obtain ⟨x, hxx⟩ : ∃ x, N i = x := ⟨_, rfl⟩
        obtain ⟨y, hyy⟩ : ∃ y, M i = y := ⟨_, rfl⟩
        rw [hdd, hxx, hyy] at HCELL
        rw [hxx] at hnr
        have k0 := (HCELL.out _ HI.out.bel).1
        have k1 := (HCELL.out _ HI.out.bel).2.1
        have k2 := (HCELL.out _ HI.out.bel).2.2
        have hli : (i : Int) < n := by omega
        have hll := HL.out
        by_cases hd5 : d ≤ 5
        · obtain ⟨L1, hL1⟩ : ∃ L1, putB L x y = L1 := ⟨_, rfl⟩
          have hl1 : L1.length ≤ 16 * (i + 1) := by have := putB_len L x y; rw [hL1] at this; omega
          have HL1 := Lib.hid hl1
          have HPL : Hid ((pack L1).length ≤ 9223372036854775807) := Lib.hid (by rw [pack_len]; omega)
          have HPP := Lib.hid (fun j => by
            have := pputC g _ bs L x y (wr.drewN j) (HI.out.drewN j).pw (by omega) hnr.1 hnr.2
            rw [hL1] at this
            exact this)
          have HRP := Lib.hid (fun (W : World) v j (hW : RRow W rb rb v L) => by
            have := rputC rb rb v L x y (W.drewN j) (hW.drewN j) (Nat.le_of_lt hW.lt) (by omega) hnr.1 hnr.2
            rw [hL1] at this
            exact this)
          have HPB := Lib.hid (fun (W : World) (bs1 : List Nat) (hW : PW W g 26 bs1 L1) => pbytes5 g _ bs1 L1 W hW (by omega))
          have HRB := Lib.hid (fun (W : World) v (hW : RRow W rb rb v L1) => rbytesC rb rb v L1 W hW (by omega))
          clear hdd hxx hyy hll hL1 hl1 hnr hbl
          go_upto_region 11 with fail
          go_region_with (go_at_call 10; refine (HPP.out _).mono ?_; (rintro r w2 ⟨rfl, bs2, hp2, ho2, hb2⟩); have HI2 := Lib.hid ((HI.out.drewN _).step1 hp2 ho2 hb2); have k3 := (HCELL.out _ HI2.out.bel).2.1; have k4 := (HCELL.out _ HI2.out.bel).2.2; clear hp2 ho2 hb2)
          all_goals
            clear k0 k1 k2
            go_upto_region 12 with fail
            go_region_with (go_at_call 17; refine (HRP.out w2 _ _ HI2.out.rr).mono ?_; (rintro r w3 ⟨rfl, u3, hr3, hm3⟩); have HI3 := Lib.hid ((HI2.out.drewN _).step2 hr3 hm3); clear hr3 hm3)
          all_goals
            clear k3 k4
            go_wp2_with (first
              | (go_at_call 13; refine (HPB.out _ _ HI3.out.pw).mono ?_; (rintro r w4 ⟨v4, rfl, hm4, hb4⟩); have HI4 := Lib.hid (HI3.out.more hb4); have HM4 := Lib.hid hm4; clear hm4 hb4)
              | (go_at_call 19; refine (HRB.out _ _ HI4.out.rr).mono ?_; (rintro r w5 ⟨v5, rfl, hm5, hb5⟩); obtain ⟨A4, c4, rfl, hy4⟩ := (HM4.out.kept hb5).byt; obtain ⟨A5, c5, rfl, hy5⟩ := hm5.byt; have HE := Lib.hid (refSame_yes A4 A5 _ c4 _ c5 _ _ _ hy4 hy5 HPL.out); have HI5 := Lib.hid (HI4.out.more hb5); clear hm5 hb5 hy4 hy5)
              | (go_at_call 12; refine HE.out.mono ?_; (rintro r w6 ⟨rfl, q6, rfl⟩); have HI6 := Lib.hid (HI5.out.drewN q6)))
            go_roundw
            case rel => exact ⟨i + 1, _, _, L1, hlt, by go_num, HI6, HL1⟩
            case measure => simp [intOf]; omega
        · obtain ⟨L1, hL1⟩ : ∃ L1, padB L = L1 := ⟨_, rfl⟩
          have hl1 : L1.length ≤ 16 * (i + 1) := by have := padB_len L; rw [hL1] at this; omega
          have HL1 := Lib.hid hl1
          have HPL : Hid ((pack L1).length ≤ 9223372036854775807) := Lib.hid (by rw [pack_len]; omega)
          have HPP := Lib.hid (by
            have := palign5 g _ bs L wr HI.out.pw (by omega)
            rw [hL1] at this
            exact this)
          have HRP := Lib.hid (fun (W : World) v (hW : RRow W rb rb v L) => by
            have := ralignC rb rb v L W hW (by omega)
            rw [hL1] at this
            exact this)
          have HPB := Lib.hid (fun (W : World) (bs1 : List Nat) (hW : PW W g 26 bs1 L1) => pbytes5 g _ bs1 L1 W hW (by omega))
          have HRB := Lib.hid (fun (W : World) v (hW : RRow W rb rb v L1) => rbytesC rb rb v L1 W hW (by omega))
          clear hdd hxx hyy hll hL1 hl1 hnr hbl k1 k2
          go_upto_region 15 with (first
            | (go_at_call 11; refine HPP.out.mono ?_; (rintro r w2 ⟨rfl, bs2, hp2, ho2, hb2⟩); have HI2 := Lib.hid (HI.out.step1 hp2 ho2 hb2); clear hp2 ho2 hb2)
            | (go_at_call 18; refine (HRP.out w2 _ HI2.out.rr).mono ?_; (rintro r w3 ⟨rfl, hr3, hm3⟩); have HI3 := Lib.hid (HI2.out.step2 hr3 hm3); clear hr3 hm3))
          go_wp2_with (first
            | (go_at_call 13; refine (HPB.out _ _ HI3.out.pw).mono ?_; (rintro r w4 ⟨v4, rfl, hm4, hb4⟩); have HI4 := Lib.hid (HI3.out.more hb4); have HM4 := Lib.hid hm4; clear hm4 hb4)
            | (go_at_call 19; refine (HRB.out _ _ HI4.out.rr).mono ?_; (rintro r w5 ⟨v5, rfl, hm5, hb5⟩); obtain ⟨A4, c4, rfl, hy4⟩ := (HM4.out.kept hb5).byt; obtain ⟨A5, c5, rfl, hy5⟩ := hm5.byt; have HE := Lib.hid (refSame_yes A4 A5 _ c4 _ c5 _ _ _ hy4 hy5 HPL.out); have HI5 := Lib.hid (HI4.out.more hb5); clear hm5 hb5 hy4 hy5)
            | (go_at_call 12; refine HE.out.mono ?_; (rintro r w6 ⟨rfl, q6, rfl⟩); have HI6 := Lib.hid (HI5.out.drewN q6)))
          go_roundw
          case rel => exact ⟨i + 1, _, _, L1, hlt, by go_num, HI6, HL1⟩
          case measure => simp [intOf]; omega
      · obtain rfl : i = n := by omega
        go_wp2_with fail
        go_ret
        exact ⟨rfl, HI.out.bel⟩
  · have hni : (200 : Int) < n := by omega
    go_enter Try.func4, Try.ntmps4
    go_wp2_with (go_at_call 9; refine HAW.out.mono ?_; (rintro r w0 ⟨rfl, hb0⟩); have HB0 := Lib.hid hb0; clear hb0)
    go_ret
    exact ⟨rfl, HB0.out⟩
set_option maxRecDepth 100000 in
theorem rows_lifted (os : Os) (started : os.Started) (H : Type) (enc : TypeId × Value → H) :
    ReturnsInHanded {} Try.checked os 4 .any (Rows.deflateRowsSpec.pre6 enc Try.prog Try.f4 Rows.deflateRowsRow.domain false) (Rows.deflateRowsSpec.post enc Try.prog Try.f4 false true false false) := by
  refine returnsInHanded_of_change (C := Try.checked) own started (by kernel_rfl) Try.func4
    (ChangeSpec.witness6 (enc := enc) (C := Try.checked) false ⟨#[], #[.slice none 0 0], []⟩ 8 (by kernel_rfl) (by kernel_rfl) (by kernel_rfl) (by kernel_rfl)) ?_
  intro W base args ds gs before hval0 hW hcnd _
  have hval : ∀ (j : Nat) t v, Try.f4.params[j]? = some t → args[j]? = some v → Value.okWide Try.prog W .any base t v := hval0
  have hW' := hW
  obtain ⟨p, q, hA0, hV, rfl, hfz, hnd⟩ := hW
  have hA : DataW.TrodAll enc Try.prog W 0 (fun _ => true) true Try.f4.params.toList args.toList ds p := hA0
  rw [Try.params4] at hA hval
  obtain ⟨v0, vs0, d0, ds0, p0, q0, hargs, rfl, rfl, h0, r0⟩ := trodAll_cons hA
  obtain ⟨rfl, rfl, rfl⟩ := trodAll_nil r0
  obtain rfl : args = #[v0] := by cases args; simp_all
  obtain ⟨rfl, rfl⟩ := trodVars_none hV
  obtain ⟨a0, len0, cap0, rfl⟩ := okWide_slice Try.underlying32 (hval 0 32 v0 rfl rfl)
  obtain ⟨D, N, M, hln, hnr, hds⟩ := open_deeds h0 (fun _ => rfl)
  have lt0 : ∀ x ∈ p0, x.block < W.heap.size := by obtain ⟨m, hm⟩ := h0; exact DataW.trod_lt m _ _ _ hm
  have hmx : maxLen = 9223372036854775807 := by decide
  clear hA0 hval0
  refine (rows_walk a0 len0 cap0 D N M W hds hnr hln).mono fun e W' ⟨he, bel⟩ => ?_
  subst he
  exact ⟨_, rfl, _, _, _, [], _, [], hW', trodAll_mk1 (shut_bool Try.underlying4 _), (trodAll_cons_mk (Below.trod laidOut (by kernel_rfl) (of_decide_eq_true (by kernel_rfl)) h0 bel lt0) trodAll_mk0), rfl, bel.frame _, fun h => by cases h⟩

/-- DeflateRows: it answers true. -/
theorem rows_holds : Rows.DeflateRowsSaid :=
  OpenClaim.holds_of_wide 4 Try.f4 rfl rfl rfl rfl rfl rfl rfl ⟨rfl, rfl, rfl, rfl, rfl⟩ rfl rfl rfl rfl rfl (by kernel_rfl) Try.func4 (by kernel_rfl)
    (of_decide_eq_true (by kernel_rfl)) (by unfold Func.isWrapper; first | (rw [if_pos (by decide +kernel)]; kernel_rfl) | (rw [if_neg (by decide +kernel)]; exact ⟨rfl, rfl⟩))
    (fun os started H enc _ => rows_lifted os started H enc)
#print axioms rows_holds

end Go.Proofs.Ytkbgneadhbpcaaa
