/- Contracts of functions that the law calls, and what they lean on (a part). -/
import Derived.Test.YtliieeagbpmcgaaDoorPu19
import Derived.Test.YtliieeagbpmcgaaDoorPu20
namespace Go.Proofs.YtliieeagbpmcgaaDoor
section
open Go.RowKit
set_option linter.unusedVariables false
set_option maxRecDepth 100000
def leS (s t : ByteArray) : Bool := Op.bytesLess s.toList t.toList || s.toList == t.toList
theorem run_leS (s t : ByteArray) (W : World) : (binOp BinOp.leq 9 (.string s) (.string t)).run Tryd.prog W = .ok (.bool (leS s t)) W := by kernel_rfl
def Ob.kind : Ob → Int
  | .mk k _ _ _ _ => k
/-- Entries with one more, by its key; 'put' if it has its place (or is none). -/
def withE (s : ByteArray) (x : Ob) : Ens → Bool → Ens
  | .nil, put => if put = true then .nil else .cons s x .nil
  | .cons t y ys, put =>
    if put = false ∧ leS s t = true then (if t = s then .cons s x (withE s x ys true) else .cons s x (.cons t y (withE s x ys true)))
    else (if t = s then withE s x ys put else .cons t y (withE s x ys put))
def Ens.app : Ens → Ens → Ens
  | .nil, r => r
  | .cons s x xs, r => .cons s x (xs.app r)
theorem Ens.app_nil : ∀ l : Ens, l.app .nil = l
  | .nil => rfl
  | .cons s x xs => by rw [Ens.app, Ens.app_nil xs]
theorem Ens.snoc_app : ∀ (l : Ens) (s : ByteArray) (x : Ob) (r : Ens), (l.snoc s x).app r = l.app (.cons s x r)
  | .nil, s, x, r => rfl
  | .cons t y ys, s, x, r => by rw [Ens.snoc, Ens.app, Ens.snoc_app ys s x r, Ens.app]
theorem Ens.app_len : ∀ (l r : Ens), (l.app r).len = l.len + r.len
  | .nil, r => by rw [Ens.app, Ens.len]; omega
  | .cons s x xs, r => by rw [Ens.app, Ens.len, Ens.app_len xs r, Ens.len]; omega
theorem withE_len (s : ByteArray) (x : Ob) : ∀ (d : Ens) (p : Bool), (withE s x d p).len ≤ d.len + 1
  | .nil, p => by rw [withE]; split <;> simp [Ens.len]
  | .cons t y ys, p => by
    have h1 := withE_len s x ys true
    have h2 := withE_len s x ys p
    have h3 : (withE s x ys true).len ≤ ys.len := withE_lenT s x ys
    rw [withE, Ens.len]
    split <;> split <;> ((try simp only [Ens.len]); omega)
 where
  withE_lenT (s : ByteArray) (x : Ob) : ∀ (d : Ens), (withE s x d true).len ≤ d.len
  | .nil => by rw [withE, if_pos rfl]; exact Nat.le_refl _
  | .cons t y ys => by
    have h1 := withE_lenT s x ys
    rw [withE, if_neg (by simp), Ens.len]
    split <;> ((try simp only [Ens.len]); omega)
/-- An entry more, out of a literal, that lies where its own do. -/
theorem OwnE.lit2 {T : Nat → Prop} {w : World} {base : Nat} {v : Value} {d : Ens} (h : OwnE T w base v d) (s : ByteArray) (x : Ob) {c0 c1 c2 c3 c4 : Value} (hx : ObR w (ownS T w base v) x c0 c1 c2 c3 c4) (hl : d.len ≤ 1000000000) (hbase : base ≤ w.heap.size) (hT : ∀ g, T g → g < base) :
    ∃ A c w'', (Builtin.append_ #[24, 24] 24 #[v, .slice (some ⟨w.heap.size, 0, none⟩) 1 1]).run Tryd.prog (w.alloc (.cells #[.string s, c0, c1, c2, c3, c4] 36)) = .ok (.slice A (d.len + 1) c) w'' ∧ OwnE T w'' base (.slice A (d.len + 1) c) (d.snoc s x) ∧ Below base w w'' := by
  have hb1 : Below w.heap.size w (w.alloc (.cells #[.string s, c0, c1, c2, c3, c4] 36)) := (Below.refl _ _).alloc (Nat.le_refl _) _
  have h1 := h.low hb1
  have hn := heap_alloc_new w (.cells #[.string s, c0, c1, c2, c3, c4] 36)
  have hx1 : ObR (w.alloc (.cells #[.string s, c0, c1, c2, c3, c4] 36)) (ownS T (w.alloc (.cells #[.string s, c0, c1, c2, c3, c4] 36)) base v) x c0 c1 c2 c3 c4 :=
    ObR.keep (fun g hg => hb1.block g hg.2.1) (fun g hg => ⟨hg.1, Nat.lt_of_lt_of_le hg.2.1 hb1.size, hg.2.2⟩) x hx
  obtain ⟨v', w'', hr, ho, hk, A, c, rfl⟩ := h1.append1 s x w.heap.size hx1 (by rw [cell_of_row _ _ 0 _ _ (0, 0) hn]; rfl) (by rw [cell_of_row _ _ 1 _ _ (0, 0) hn]; rfl) (by rw [cell_of_row _ _ 2 _ _ (0, 0) hn]; rfl) (by rw [cell_of_row _ _ 3 _ _ (0, 0) hn]; rfl) (by rw [cell_of_row _ _ 4 _ _ (0, 0) hn]; rfl) (by rw [cell_of_row _ _ 5 _ _ (0, 0) hn]; rfl) hl (Nat.le_trans hbase hb1.size) hT
  exact ⟨A, c, w'', hr, ho, (hb1.mono hbase).trans (hk.below (Nat.le_trans hbase hb1.size) (fun b hb => h1.owned b hb))⟩
/-- What a call answers that makes a row of entries, out of old ones and new ones. -/
def WiP (S : Nat → Prop) (w : World) (R : Ens) (r : Ending) (w' : World) : Prop := ∃ A c, r = .returned (.slice A R.len c) ∧ (R.len ≤ c ∧ c ≤ 9223372036854775807) ∧ (0 < R.len → ∃ g o, A = some ⟨g, o, none⟩ ∧ ((S g ∨ w.heap.size ≤ g) ∧ g < w'.heap.size) ∧ EnsR w' (fun g => (S g ∨ w.heap.size ≤ g) ∧ g < w'.heap.size) R g o) ∧ Below w.heap.size w w'
set_option maxHeartbeats 8000000 in
theorem withC (s : ByteArray) (x : Ob) (d : Ens) (Sd Se : Nat → Prop) (w : World) (AD : Option Addr) (cD : Nat) (c0 c1 c2 c3 c4 : Value) (hd1 : d.len ≤ cD ∧ cD ≤ 9223372036854775807) (hd : 0 < d.len → ∃ g o, AD = some ⟨g, o, none⟩ ∧ Sd g ∧ EnsR w Sd d g o) (hx : ObR w Se x c0 c1 c2 c3 c4) (hSd : ∀ g, Sd g → g < w.heap.size) (hSe : ∀ g, Se g → g < w.heap.size) (hok : okO x) (hdl : d.len ≤ 100000000) :
    Calls Tryd.prog 17 #[.slice AD d.len cD, .agg #[.string s, c0, c1, c2, c3, c4]] w (WiP Sd w (withE s x d (decide (x.kind = 0)))) := by
  have hb1 := (Below.refl w.heap.size w).alloc (Nat.le_refl _) (.cells #[.string s, c0, c1, c2, c3, c4] 36)
  have hn1 := heap_alloc_new w (.cells #[.string s, c0, c1, c2, c3, c4] 36)
  obtain ⟨W1, hW1⟩ : ∃ W1, w.alloc (.cells #[.string s, c0, c1, c2, c3, c4] 36) = W1 := ⟨_, rfl⟩
  have hs1 : W1.heap.size = w.heap.size + 1 := by rw [← hW1]; simp
  rw [hW1] at hb1 hn1
  have HBX : Hid (∀ W, Below W1.heap.size W1 W → W.cell? ⟨w.heap.size, 0, none⟩ = some (.string s) ∧ W.cell? ⟨w.heap.size, 1, none⟩ = some c0 ∧ W.cell? ⟨w.heap.size, 2, none⟩ = some c1 ∧ W.cell? ⟨w.heap.size, 3, none⟩ = some c2 ∧ W.cell? ⟨w.heap.size, 4, none⟩ = some c3 ∧ W.cell? ⟨w.heap.size, 5, none⟩ = some c4) := Lib.hid (fun W hW => by
    have h := (hW.block w.heap.size (by omega)).trans hn1
    exact ⟨cell_of_row _ _ 0 _ _ (0, 0) h, cell_of_row _ _ 1 _ _ (0, 0) h, cell_of_row _ _ 2 _ _ (0, 0) h, cell_of_row _ _ 3 _ _ (0, 0) h, cell_of_row _ _ 4 _ _ (0, 0) h, cell_of_row _ _ 5 _ _ (0, 0) h⟩)
  have HLO : Hid (∀ W, Below W1.heap.size W1 W → Below w.heap.size w W) := Lib.hid (fun W hW => hb1.trans (hW.mono (by omega)))
  have HCP : Hid (∀ W, Below W1.heap.size W1 W → Calls Tryd.prog 18 #[.agg #[c0, c1, c2, c3, c4]] W (CpP W x)) := Lib.hid (fun W hW => by
    have h := HLO.out W hW
    exact copyC _ x (Nat.le_refl _) hok Se W c0 c1 c2 c3 c4 (ObR.keep (fun g hg => h.block g (hSe g hg)) (fun _ h => h) x hx) (fun g hg => Nat.lt_of_lt_of_le (hSe g hg) h.size))
  have hT : ∀ g, Sd g → g < W1.heap.size := fun g hg => by have := hSd g hg; omega
  obtain ⟨k, hk⟩ : ∃ k, x.kind = k := ⟨_, rfl⟩
  have hc0 : c0 = .int .i64 k := by
    obtain ⟨k', n', b', l', d'⟩ := x
    unfold ObR at hx
    rw [hx.1, ← hk]; rfl
  subst hc0
  obtain ⟨DD, hDD⟩ : ∃ DD, d.len = DD := ⟨_, rfl⟩
  rw [hDD] at hd1 ⊢
  obtain ⟨R, hR⟩ : ∃ R, withE s x d (decide (x.kind = 0)) = R := ⟨_, rfl⟩
  have hRL : R.len ≤ DD + 1 := by rw [← hR, ← hDD]; exact withE_len s x d _
  rw [hR]
  rw [hk] at hR
  have HR := Lib.hid hR
  have HRL : Hid (R.len ≤ 1000000000) := Lib.hid (by omega)
  have HD := Lib.hid hd
  have HDD := Lib.hid hDD
  have HSd := Lib.hid hSd
  have HT := Lib.hid hT
  have HB1 := Lib.hid hb1
  have HS1 := Lib.hid hs1
  have hdd : DD ≤ 100000000 := by omega
  obtain ⟨b0, b1, b2, b3, b4, b5⟩ := HBX.out W1 (Below.refl _ _)
  clear hb1 hn1 hs1 hR hRL hd hDD hSd hSe hx hdl hk
  go_enter Tryd.func17, Tryd.ntmps17
  go_wp2_with fail
  clear b0 b1 b2 b3 b4 b5
  go_loopw [5, 6, 7] (fun ov pv iv wr => ∃ (i cV : Nat) (AV : Option Addr) (O : Ens) (p : Bool), i ≤ DD ∧ iv = .int .i64 i ∧ pv = .bool p ∧ ov = .slice AV O.len cV ∧ Hid (O.app (withE s x (d.dropN i) p) = R) ∧ Hid (Below W1.heap.size W1 wr) ∧ Hid (OwnE Sd wr W1.heap.size (.slice AV O.len cV) O)) (fun _ _ iv _ => DD - (intOf iv).toNat)
  case atStart => exact ⟨0, 0, none, .nil, _, Nat.zero_le _, rfl, rfl, rfl, Lib.hid (by rw [← HR.out]; cases d <;> rfl), Lib.hid (Below.refl _ _), Lib.hid (OwnE.nil _ _ _)⟩
  case round =>
    obtain ⟨i, cV, AV, O, p, hi, rfl, rfl, rfl, HM, HBE, HOW⟩ := hrel
    have HOL : Hid (O.len ≤ 1000000000) := Lib.hid (by
      have h1 := congrArg Ens.len HM.out
      rw [Ens.app_len] at h1
      have := HRL.out
      omega)
    have hww := HLO.out wr HBE.out
    by_cases hlt : i < DD
    · have hgt := d.get_some i (by rw [HDD.out]; exact hlt)
      obtain ⟨sy, y, hy⟩ := hgt
      obtain ⟨g, o, rfl, hg, hobs⟩ := HD.out (by rw [HDD.out]; omega)
      obtain ⟨d0, d1, d2, d3, d4, js, j0, j1, j2, j3, j4, hyr⟩ := hobs.get d g o i sy y hy
      have hgw : g < w.heap.size := HSd.out g hg
      have HYR := Lib.hid hyr
      have HEL : Hid (∀ W, Below W1.heap.size W1 W → W.cell? ⟨g, o + i * 6, none⟩ = some (.string sy) ∧ W.cell? ⟨g, o + i * 6 + 1, none⟩ = some d0 ∧ W.cell? ⟨g, o + i * 6 + 2, none⟩ = some d1 ∧ W.cell? ⟨g, o + i * 6 + 3, none⟩ = some d2 ∧ W.cell? ⟨g, o + i * 6 + 4, none⟩ = some d3 ∧ W.cell? ⟨g, o + i * 6 + 5, none⟩ = some d4) := Lib.hid (fun W hW => by
        have e := fun j => World.cell?_of_block (a := ⟨g, j, none⟩) ((HLO.out W hW).block g hgw)
        exact ⟨(e _).trans js, (e _).trans j0, (e _).trans j1, (e _).trans j2, (e _).trans j3, (e _).trans j4⟩)
      have hm := HM.out
      rw [d.drop_get i sy y hy, withE] at hm
      have hli : (i : Int) < DD := by omega
      have hed := HEL.out _ HBE.out.drew
      have hbd := HBX.out _ HBE.out.drew
      clear hy hobs hyr hg hgw js j0 j1 j2 j3 j4 hww
      cases p
      · by_cases hle : leS s sy = true
        · rw [if_pos ⟨rfl, hle⟩] at hm
          have hbo : ∀ W, (binOp BinOp.leq 9 (.string s) (.string sy)).run Tryd.prog W = .ok (.bool true) W := fun W => by rw [run_leS, hle]
          have hm1 : (O.snoc s x).app (if sy = s then withE s x (d.dropN (i + 1)) true else .cons sy y (withE s x (d.dropN (i + 1)) true)) = R := by
            rw [Ens.snoc_app, ← hm]
            by_cases e : sy = s
            · rw [if_pos e, if_pos e]
            · rw [if_neg e, if_neg e]
          have hm := hm1
          clear hm1
          go_upto_region 6 with fail
          refine wp_region_heldR (fun w' => w'.cell? ⟨g, o + i * 6, none⟩ = some (.string sy) ∧ w'.cell? ⟨w.heap.size, 0, none⟩ = some (.string s)) 1000 (by kernel_rfl) ⟨hed.1, hbd.1⟩ (fun hHeld => ?_)
          refine wpAnyR_take 0 rfl (by kernel_rfl) (by kernel_rfl) (by kernel_rfl) (by kernel_rfl) (fun _ _ _ h => h) (by rfl) (v := ?_) ?_ (by assumption) ?_
          rotate_left
          focus
            intro wS hSw
            (try dsimp only at hSw)
            go_simp
            try with_reducible rfl
          intro hHeld
          try simp only [Act.put, List.setIfInBounds_toArray, List.set_cons_zero, List.set_cons_succ]
          refine wpAnyR_take 1 rfl (by kernel_rfl) (by kernel_rfl) (by kernel_rfl) (by kernel_rfl) (fun _ _ _ h => h) (by rfl) (v := ?_) ?_ (by assumption) ?_
          rotate_left
          focus
            intro wS hSw
            (try dsimp only at hSw)
            go_simp
            try with_reducible rfl
          intro hHeld
          try simp only [Act.put, List.setIfInBounds_toArray, List.set_cons_zero, List.set_cons_succ]
          refine wpAnyR_take 2 rfl (by kernel_rfl) (by kernel_rfl) (by kernel_rfl) (by kernel_rfl) (fun _ _ _ h => h) (by rfl) (v := ?_) ?_ (by assumption) ?_
          rotate_left
          focus
            intro wS hSw
            (try dsimp only at hSw)
            go_simp
            try with_reducible rfl
          intro hHeld
          try simp only [Act.put, List.setIfInBounds_toArray, List.set_cons_zero, List.set_cons_succ]
          refine wpAnyR_take 3 rfl (by kernel_rfl) (by kernel_rfl) (by kernel_rfl) (by kernel_rfl) (fun _ _ _ h => h) (by rfl) (v := ?_) ?_ (by assumption) ?_
          rotate_left
          focus
            intro wS hSw
            (try dsimp only at hSw)
            go_simp
            try with_reducible rfl
          intro hHeld
          try simp only [Act.put, List.setIfInBounds_toArray, List.set_cons_zero, List.set_cons_succ]
          refine wpAnyR_take 4 rfl (by kernel_rfl) (by kernel_rfl) (by kernel_rfl) (by kernel_rfl) (fun _ _ _ h => h) (by rfl) (v := ?_) ?_ (by assumption) ?_
          rotate_left
          focus
            intro wS hSw
            (try dsimp only at hSw)
            go_simp
            try with_reducible rfl
          intro hHeld
          try simp only [Act.put, List.setIfInBounds_toArray, List.set_cons_zero, List.set_cons_succ]
          refine wpAnyR_take 5 rfl (by kernel_rfl) (by kernel_rfl) (by kernel_rfl) (by kernel_rfl) (fun _ _ _ h => h) (by rfl) (v := ?_) ?_ (by assumption) ?_
          rotate_left
          focus
            intro wS hSw
            (try dsimp only at hSw)
            go_simp
            try with_reducible rfl
          intro hHeld
          try simp only [Act.put, List.setIfInBounds_toArray, List.set_cons_zero, List.set_cons_succ]
          refine wpAnyR_take 6 rfl (by kernel_rfl) (by kernel_rfl) (by kernel_rfl) (by kernel_rfl) (fun _ _ _ h => h) (by rfl) (v := ?_) ?_ (by assumption) ?_
          rotate_left
          focus
            intro wS hSw
            (try dsimp only at hSw)
            go_simp
            try with_reducible rfl
          intro hHeld
          try simp only [Act.put, List.setIfInBounds_toArray, List.set_cons_zero, List.set_cons_succ]
          refine wpAnyR_take 7 rfl (by kernel_rfl) (by kernel_rfl) (by kernel_rfl) (by kernel_rfl) (fun _ _ _ h => h) (by rfl) (v := ?_) ?_ (by assumption) ?_
          rotate_left
          focus
            intro wS hSw
            (try dsimp only at hSw)
            go_simp
            try with_reducible rfl
          intro hHeld
          try simp only [Act.put, List.setIfInBounds_toArray, List.set_cons_zero, List.set_cons_succ]
          refine wpAnyR_take 8 rfl (by kernel_rfl) (by kernel_rfl) (by kernel_rfl) (by kernel_rfl) (fun _ _ _ h => h) (by rfl) (v := ?_) ?_ (by assumption) ?_
          rotate_left
          focus
            intro wS hSw
            (try dsimp only at hSw)
            go_simp
            try with_reducible rfl
          intro hHeld
          try simp only [Act.put, List.setIfInBounds_toArray, List.set_cons_zero, List.set_cons_succ]
          refine wpAnyR_take 9 rfl (by kernel_rfl) (by kernel_rfl) (by kernel_rfl) (by kernel_rfl) (fun _ _ _ h => h) (by rfl) (v := ?_) ?_ (by assumption) ?_
          rotate_left
          focus
            intro wS hSw
            (try dsimp only at hSw)
            go_simp
            try with_reducible rfl
          intro hHeld
          try simp only [Act.put, List.setIfInBounds_toArray, List.set_cons_zero, List.set_cons_succ]
          refine wpAnyR_take 10 rfl (by kernel_rfl) (by kernel_rfl) (by kernel_rfl) (by kernel_rfl) (fun _ _ _ h => h) (by rfl) (v := ?_) ?_ (by assumption) ?_
          rotate_left
          focus
            intro wS hSw
            (try dsimp only at hSw)
            go_simp
            try with_reducible rfl
          intro hHeld
          try simp only [Act.put, List.setIfInBounds_toArray, List.set_cons_zero, List.set_cons_succ]
          refine wpAnyR_take 11 rfl (by kernel_rfl) (by kernel_rfl) (by kernel_rfl) (by kernel_rfl) (fun _ _ _ h => h) (by rfl) (v := ?_) ?_ (by assumption) ?_
          rotate_left
          focus
            intro wS hSw
            (try dsimp only at hSw)
            go_simp
            try with_reducible rfl
          intro hHeld
          try simp only [Act.put, List.setIfInBounds_toArray, List.set_cons_zero, List.set_cons_succ]
          refine wpAnyR_done (by kernel_rfl) ?_
          refine NoPanic.normal ?_
          clear hed hbd
          have HBE := Lib.hid HBE.out.drew
          have HOW := Lib.hid HOW.out.drew
          go_upto_region 7 with fail
          obtain ⟨a0, a1, a2, a3, a4, a5⟩ := HBX.out _ HBE.out.drew
          refine wp_region_heldR (fun w' => w'.cell? ⟨w.heap.size, 0, none⟩ = some (.string s) ∧ w'.cell? ⟨w.heap.size, 1, none⟩ = some (.int .i64 k) ∧ w'.cell? ⟨w.heap.size, 2, none⟩ = some c1 ∧ w'.cell? ⟨w.heap.size, 3, none⟩ = some c2 ∧ w'.cell? ⟨w.heap.size, 4, none⟩ = some c3 ∧ w'.cell? ⟨w.heap.size, 5, none⟩ = some c4) 1000 (by kernel_rfl) ⟨a0, a1, a2, a3, a4, a5⟩ (fun hHeld => ?_)
          refine wpAnyR_take 0 rfl (by kernel_rfl) (by kernel_rfl) (by kernel_rfl) (by kernel_rfl) (fun _ _ _ h => h) (by rfl) (v := ?_) ?_ (by assumption) ?_
          rotate_left
          focus
            intro wS hSw
            (try dsimp only at hSw)
            go_simp
            try with_reducible rfl
          intro hHeld
          try simp only [Act.put, List.setIfInBounds_toArray, List.set_cons_zero, List.set_cons_succ]
          refine wpAnyR_take 1 rfl (by kernel_rfl) (by kernel_rfl) (by kernel_rfl) (by kernel_rfl) (fun _ _ _ h => h) (by rfl) (v := ?_) ?_ (by assumption) ?_
          rotate_left
          focus
            intro wS hSw
            (try dsimp only at hSw)
            go_simp
            try with_reducible rfl
          intro hHeld
          try simp only [Act.put, List.setIfInBounds_toArray, List.set_cons_zero, List.set_cons_succ]
          refine wpAnyR_take 2 rfl (by kernel_rfl) (by kernel_rfl) (by kernel_rfl) (by kernel_rfl) (fun _ _ _ h => h) (by rfl) (v := ?_) ?_ (by assumption) ?_
          rotate_left
          focus
            intro wS hSw
            (try dsimp only at hSw)
            go_simp
            try with_reducible rfl
          intro hHeld
          try simp only [Act.put, List.setIfInBounds_toArray, List.set_cons_zero, List.set_cons_succ]
          refine wpAnyR_take 3 rfl (by kernel_rfl) (by kernel_rfl) (by kernel_rfl) (by kernel_rfl) (fun _ _ _ h => h) (by rfl) (v := ?_) ?_ (by assumption) ?_
          rotate_left
          focus
            intro wS hSw
            (try dsimp only at hSw)
            go_simp
            try with_reducible rfl
          intro hHeld
          try simp only [Act.put, List.setIfInBounds_toArray, List.set_cons_zero, List.set_cons_succ]
          refine wpAnyR_take 4 rfl (by kernel_rfl) (by kernel_rfl) (by kernel_rfl) (by kernel_rfl) (fun _ _ _ h => h) (by rfl) (v := ?_) ?_ (by assumption) ?_
          rotate_left
          focus
            intro wS hSw
            (try dsimp only at hSw)
            go_simp
            try with_reducible rfl
          intro hHeld
          try simp only [Act.put, List.setIfInBounds_toArray, List.set_cons_zero, List.set_cons_succ]
          refine wpAnyR_step 5 rfl (by kernel_rfl) (fun K hK => ?_)
          go_simp
          go_at_call 18
          refine (HCP.out _ HBE.out.drew).mono ?_
          rintro r w2 ⟨e0, e1, e2, e3, e4, rfl, hy2, hb2⟩
          have HAP := Lib.hid (HOW.out.drew.lit hb2 s x hy2 (by have := HOL.out; omega) HBE.out.size hT)
          have HB2 := Lib.hid (HBE.out.drew.trans (hb2.mono HBE.out.size))
          clear hy2 hb2
          go_wp2_with fail
          refine hK.out _ _ (HBX.out _ HB2.out) (fun hHeld => ?_)
          clear hK K
          try simp only [Act.put, List.setIfInBounds_toArray, List.set_cons_zero, List.set_cons_succ]
          refine wpAnyR_take 6 rfl (by kernel_rfl) (by kernel_rfl) (by kernel_rfl) (by kernel_rfl) (fun _ _ _ h => h) (by rfl) (v := ?_) ?_ (by assumption) ?_
          rotate_left
          focus
            intro wS hSw
            (try dsimp only at hSw)
            go_simp
            try with_reducible rfl
          intro hHeld
          try simp only [Act.put, List.setIfInBounds_toArray, List.set_cons_zero, List.set_cons_succ]
          refine wpAnyR_step 7 rfl (by kernel_rfl) (fun K hK => ?_)
          go_simp
          refine hK.out _ _ (by obtain ⟨p0, p1, p2, p3, p4, p5⟩ := HBX.out _ HB2.out; go_keep) (fun hHeld => ?_)
          clear hK K
          try simp only [Act.put, List.setIfInBounds_toArray, List.set_cons_zero, List.set_cons_succ]
          refine wpAnyR_step 8 rfl (by kernel_rfl) (fun K hK => ?_)
          obtain ⟨A6, c6, w3, hrun, ho6, hb6⟩ := HAP.out
          refine step_append_run9 rfl (.tmp 30) (.tmp 37) 24 rfl (.slice AV O.len cV) (.slice (some ⟨w2.heap.size, 0, none⟩) 1 1) rfl rfl hrun ?_
          have HB3 := Lib.hid (HB2.out.trans hb6)
          have HO3 := Lib.hid ho6
          clear hrun ho6 hb6
          refine hK.out _ _ (HBX.out _ HB3.out) (fun hHeld => ?_)
          clear hK K
          try simp only [Act.put, List.setIfInBounds_toArray, List.set_cons_zero, List.set_cons_succ]
          refine wpAnyR_take 9 rfl (by kernel_rfl) (by kernel_rfl) (by kernel_rfl) (by kernel_rfl) (fun _ _ _ h => h) (by rfl) (v := ?_) ?_ (by assumption) ?_
          rotate_left
          focus
            intro wS hSw
            (try dsimp only at hSw)
            go_simp
            try with_reducible rfl
          intro hHeld
          try simp only [Act.put, List.setIfInBounds_toArray, List.set_cons_zero, List.set_cons_succ]
          refine wpAnyR_done (by kernel_rfl) ?_
          refine NoPanic.normal ?_
          go_wp2_with fail
          have HOL2 : Hid ((O.snoc s x).len ≤ 1000000000) := Lib.hid (by
            have h1 := congrArg Ens.len hm
            rw [Ens.app_len] at h1
            have := HRL.out
            omega)
          rw [← Ens.snoc_len O s x] at HO3 ⊢
          have hee := HEL.out _ HB3.out.drew
          have hbx9 := HBX.out _ HB3.out.drew
          by_cases hts : sy = s
          · obtain rfl : s = sy := hts.symm
            clear hts
            rw [if_pos rfl] at hm
            have hM2 := Lib.hid hm
            clear hm
            go_upto_region 9 with fail
            refine wp_region_heldR (fun w' => w'.cell? ⟨g, o + i * 6, none⟩ = some (.string s) ∧ w'.cell? ⟨w.heap.size, 0, none⟩ = some (.string s)) 1000 (by kernel_rfl) ⟨hee.1, hbx9.1⟩ (fun hHeld => ?_)
            refine wpAnyR_take 0 rfl (by kernel_rfl) (by kernel_rfl) (by kernel_rfl) (by kernel_rfl) (fun _ _ _ h => h) (by rfl) (v := ?_) ?_ (by assumption) ?_
            rotate_left
            focus
              intro wS hSw
              (try dsimp only at hSw)
              go_simp
              try with_reducible rfl
            intro hHeld
            try simp only [Act.put, List.setIfInBounds_toArray, List.set_cons_zero, List.set_cons_succ]
            refine wpAnyR_take 1 rfl (by kernel_rfl) (by kernel_rfl) (by kernel_rfl) (by kernel_rfl) (fun _ _ _ h => h) (by rfl) (v := ?_) ?_ (by assumption) ?_
            rotate_left
            focus
              intro wS hSw
              (try dsimp only at hSw)
              go_simp
              try with_reducible rfl
            intro hHeld
            try simp only [Act.put, List.setIfInBounds_toArray, List.set_cons_zero, List.set_cons_succ]
            refine wpAnyR_take 2 rfl (by kernel_rfl) (by kernel_rfl) (by kernel_rfl) (by kernel_rfl) (fun _ _ _ h => h) (by rfl) (v := ?_) ?_ (by assumption) ?_
            rotate_left
            focus
              intro wS hSw
              (try dsimp only at hSw)
              go_simp
              try with_reducible rfl
            intro hHeld
            try simp only [Act.put, List.setIfInBounds_toArray, List.set_cons_zero, List.set_cons_succ]
            refine wpAnyR_take 3 rfl (by kernel_rfl) (by kernel_rfl) (by kernel_rfl) (by kernel_rfl) (fun _ _ _ h => h) (by rfl) (v := ?_) ?_ (by assumption) ?_
            rotate_left
            focus
              intro wS hSw
              (try dsimp only at hSw)
              go_simp
              try with_reducible rfl
            intro hHeld
            try simp only [Act.put, List.setIfInBounds_toArray, List.set_cons_zero, List.set_cons_succ]
            refine wpAnyR_take 4 rfl (by kernel_rfl) (by kernel_rfl) (by kernel_rfl) (by kernel_rfl) (fun _ _ _ h => h) (by rfl) (v := ?_) ?_ (by assumption) ?_
            rotate_left
            focus
              intro wS hSw
              (try dsimp only at hSw)
              go_simp
              try with_reducible rfl
            intro hHeld
            try simp only [Act.put, List.setIfInBounds_toArray, List.set_cons_zero, List.set_cons_succ]
            refine wpAnyR_take 5 rfl (by kernel_rfl) (by kernel_rfl) (by kernel_rfl) (by kernel_rfl) (fun _ _ _ h => h) (by rfl) (v := ?_) ?_ (by assumption) ?_
            rotate_left
            focus
              intro wS hSw
              (try dsimp only at hSw)
              go_simp
              try with_reducible rfl
            intro hHeld
            try simp only [Act.put, List.setIfInBounds_toArray, List.set_cons_zero, List.set_cons_succ]
            refine wpAnyR_take 6 rfl (by kernel_rfl) (by kernel_rfl) (by kernel_rfl) (by kernel_rfl) (fun _ _ _ h => h) (by rfl) (v := ?_) ?_ (by assumption) ?_
            rotate_left
            focus
              intro wS hSw
              (try dsimp only at hSw)
              go_simp
              try with_reducible rfl
            intro hHeld
            try simp only [Act.put, List.setIfInBounds_toArray, List.set_cons_zero, List.set_cons_succ]
            refine wpAnyR_take 7 rfl (by kernel_rfl) (by kernel_rfl) (by kernel_rfl) (by kernel_rfl) (fun _ _ _ h => h) (by rfl) (v := ?_) ?_ (by assumption) ?_
            rotate_left
            focus
              intro wS hSw
              (try dsimp only at hSw)
              go_simp
              try with_reducible rfl
            intro hHeld
            try simp only [Act.put, List.setIfInBounds_toArray, List.set_cons_zero, List.set_cons_succ]
            refine wpAnyR_done (by kernel_rfl) ?_
            refine NoPanic.normal ?_
            clear hee hbx9
            go_wp2_with fail
            go_roundw
            case rel => exact ⟨i + 1, _, _, (O.snoc s x), true, by omega, by go_num, rfl, by first | rfl | simp only [Ens.snoc_len], hM2, Lib.hid HB3.out.drew, Lib.hid HO3.out.drew⟩
            case measure => simp [intOf]; omega
          · rw [if_neg hts] at hm
            rw [← Ens.snoc_app] at hm
            have hM2 := Lib.hid hm
            have nts := str_ne hts
            have HAP2 := Lib.hid (HO3.out.drew.lit2 sy y (ObR.keep (w := w) (w' := World.drew w3) (S := Sd) (fun b hb' => (HLO.out _ HB3.out.drew).block b (HSd.out b hb')) (fun b hb' => ⟨.inl hb', Nat.lt_of_lt_of_le (HT.out b hb') HB3.out.drew.size, fun e => by have := HO3.out.drew.owned b e; have := HT.out b hb'; omega⟩) y HYR.out) (by have := HOL2.out; omega) HB3.out.drew.size HT.out)
            clear hm
            go_upto_region 9 with fail
            refine wp_region_heldR (fun w' => w'.cell? ⟨g, o + i * 6, none⟩ = some (.string sy) ∧ w'.cell? ⟨w.heap.size, 0, none⟩ = some (.string s)) 1000 (by kernel_rfl) ⟨hee.1, hbx9.1⟩ (fun hHeld => ?_)
            refine wpAnyR_take 0 rfl (by kernel_rfl) (by kernel_rfl) (by kernel_rfl) (by kernel_rfl) (fun _ _ _ h => h) (by rfl) (v := ?_) ?_ (by assumption) ?_
            rotate_left
            focus
              intro wS hSw
              (try dsimp only at hSw)
              go_simp
              try with_reducible rfl
            intro hHeld
            try simp only [Act.put, List.setIfInBounds_toArray, List.set_cons_zero, List.set_cons_succ]
            refine wpAnyR_take 1 rfl (by kernel_rfl) (by kernel_rfl) (by kernel_rfl) (by kernel_rfl) (fun _ _ _ h => h) (by rfl) (v := ?_) ?_ (by assumption) ?_
            rotate_left
            focus
              intro wS hSw
              (try dsimp only at hSw)
              go_simp
              try with_reducible rfl
            intro hHeld
            try simp only [Act.put, List.setIfInBounds_toArray, List.set_cons_zero, List.set_cons_succ]
            refine wpAnyR_take 2 rfl (by kernel_rfl) (by kernel_rfl) (by kernel_rfl) (by kernel_rfl) (fun _ _ _ h => h) (by rfl) (v := ?_) ?_ (by assumption) ?_
            rotate_left
            focus
              intro wS hSw
              (try dsimp only at hSw)
              go_simp
              try with_reducible rfl
            intro hHeld
            try simp only [Act.put, List.setIfInBounds_toArray, List.set_cons_zero, List.set_cons_succ]
            refine wpAnyR_take 3 rfl (by kernel_rfl) (by kernel_rfl) (by kernel_rfl) (by kernel_rfl) (fun _ _ _ h => h) (by rfl) (v := ?_) ?_ (by assumption) ?_
            rotate_left
            focus
              intro wS hSw
              (try dsimp only at hSw)
              go_simp
              try with_reducible rfl
            intro hHeld
            try simp only [Act.put, List.setIfInBounds_toArray, List.set_cons_zero, List.set_cons_succ]
            refine wpAnyR_take 4 rfl (by kernel_rfl) (by kernel_rfl) (by kernel_rfl) (by kernel_rfl) (fun _ _ _ h => h) (by rfl) (v := ?_) ?_ (by assumption) ?_
            rotate_left
            focus
              intro wS hSw
              (try dsimp only at hSw)
              go_simp
              try with_reducible rfl
            intro hHeld
            try simp only [Act.put, List.setIfInBounds_toArray, List.set_cons_zero, List.set_cons_succ]
            refine wpAnyR_take 5 rfl (by kernel_rfl) (by kernel_rfl) (by kernel_rfl) (by kernel_rfl) (fun _ _ _ h => h) (by rfl) (v := ?_) ?_ (by assumption) ?_
            rotate_left
            focus
              intro wS hSw
              (try dsimp only at hSw)
              go_simp
              try with_reducible rfl
            intro hHeld
            try simp only [Act.put, List.setIfInBounds_toArray, List.set_cons_zero, List.set_cons_succ]
            refine wpAnyR_take 6 rfl (by kernel_rfl) (by kernel_rfl) (by kernel_rfl) (by kernel_rfl) (fun _ _ _ h => h) (by rfl) (v := ?_) ?_ (by assumption) ?_
            rotate_left
            focus
              intro wS hSw
              (try dsimp only at hSw)
              go_simp
              try with_reducible rfl
            intro hHeld
            try simp only [Act.put, List.setIfInBounds_toArray, List.set_cons_zero, List.set_cons_succ]
            refine wpAnyR_take 7 rfl (by kernel_rfl) (by kernel_rfl) (by kernel_rfl) (by kernel_rfl) (fun _ _ _ h => h) (by rfl) (v := ?_) ?_ (by assumption) ?_
            rotate_left
            focus
              intro wS hSw
              (try dsimp only at hSw)
              go_simp
              try with_reducible rfl
            intro hHeld
            try simp only [Act.put, List.setIfInBounds_toArray, List.set_cons_zero, List.set_cons_succ]
            refine wpAnyR_done (by kernel_rfl) ?_
            refine NoPanic.normal ?_
            obtain ⟨ks, k0, k1, k2, k3, k4⟩ := hee
            clear hbx9
            go_wp2_with (at_builtin; obtain ⟨A7, c7, w7, hrun7, ho7, hb7⟩ := HAP2.out; refine Lib.wpList_append_run_sl _ rfl (.tmp 47) (.tmp 52) 24 rfl _ _ rfl rfl hrun7 ?_; clear hrun7; have HO7 := Lib.hid ho7; have HB7 := Lib.hid (HB3.out.drew.trans hb7); clear ho7 hb7)
            go_roundw
            case rel => exact ⟨i + 1, c7, A7, Ens.snoc (O.snoc s x) sy y, true, by omega, by go_num, rfl, by simp only [Ens.snoc_len], hM2, HB7, by rw [Ens.snoc_len]; exact HO7⟩
            case measure => simp [intOf]; omega
        · rw [if_neg (fun h => hle h.2)] at hm
          have hbo : ∀ W, (binOp BinOp.leq 9 (.string s) (.string sy)).run Tryd.prog W = .ok (.bool false) W := fun W => by rw [run_leS, Bool.eq_false_iff.2 hle]
          go_upto_region 6 with fail
          refine wp_region_heldR (fun w' => w'.cell? ⟨g, o + i * 6, none⟩ = some (.string sy) ∧ w'.cell? ⟨w.heap.size, 0, none⟩ = some (.string s)) 1000 (by kernel_rfl) ⟨hed.1, hbd.1⟩ (fun hHeld => ?_)
          refine wpAnyR_take 0 rfl (by kernel_rfl) (by kernel_rfl) (by kernel_rfl) (by kernel_rfl) (fun _ _ _ h => h) (by rfl) (v := ?_) ?_ (by assumption) ?_
          rotate_left
          focus
            intro wS hSw
            (try dsimp only at hSw)
            go_simp
            try with_reducible rfl
          intro hHeld
          try simp only [Act.put, List.setIfInBounds_toArray, List.set_cons_zero, List.set_cons_succ]
          refine wpAnyR_take 1 rfl (by kernel_rfl) (by kernel_rfl) (by kernel_rfl) (by kernel_rfl) (fun _ _ _ h => h) (by rfl) (v := ?_) ?_ (by assumption) ?_
          rotate_left
          focus
            intro wS hSw
            (try dsimp only at hSw)
            go_simp
            try with_reducible rfl
          intro hHeld
          try simp only [Act.put, List.setIfInBounds_toArray, List.set_cons_zero, List.set_cons_succ]
          refine wpAnyR_take 2 rfl (by kernel_rfl) (by kernel_rfl) (by kernel_rfl) (by kernel_rfl) (fun _ _ _ h => h) (by rfl) (v := ?_) ?_ (by assumption) ?_
          rotate_left
          focus
            intro wS hSw
            (try dsimp only at hSw)
            go_simp
            try with_reducible rfl
          intro hHeld
          try simp only [Act.put, List.setIfInBounds_toArray, List.set_cons_zero, List.set_cons_succ]
          refine wpAnyR_take 3 rfl (by kernel_rfl) (by kernel_rfl) (by kernel_rfl) (by kernel_rfl) (fun _ _ _ h => h) (by rfl) (v := ?_) ?_ (by assumption) ?_
          rotate_left
          focus
            intro wS hSw
            (try dsimp only at hSw)
            go_simp
            try with_reducible rfl
          intro hHeld
          try simp only [Act.put, List.setIfInBounds_toArray, List.set_cons_zero, List.set_cons_succ]
          refine wpAnyR_take 4 rfl (by kernel_rfl) (by kernel_rfl) (by kernel_rfl) (by kernel_rfl) (fun _ _ _ h => h) (by rfl) (v := ?_) ?_ (by assumption) ?_
          rotate_left
          focus
            intro wS hSw
            (try dsimp only at hSw)
            go_simp
            try with_reducible rfl
          intro hHeld
          try simp only [Act.put, List.setIfInBounds_toArray, List.set_cons_zero, List.set_cons_succ]
          refine wpAnyR_take 5 rfl (by kernel_rfl) (by kernel_rfl) (by kernel_rfl) (by kernel_rfl) (fun _ _ _ h => h) (by rfl) (v := ?_) ?_ (by assumption) ?_
          rotate_left
          focus
            intro wS hSw
            (try dsimp only at hSw)
            go_simp
            try with_reducible rfl
          intro hHeld
          try simp only [Act.put, List.setIfInBounds_toArray, List.set_cons_zero, List.set_cons_succ]
          refine wpAnyR_take 6 rfl (by kernel_rfl) (by kernel_rfl) (by kernel_rfl) (by kernel_rfl) (fun _ _ _ h => h) (by rfl) (v := ?_) ?_ (by assumption) ?_
          rotate_left
          focus
            intro wS hSw
            (try dsimp only at hSw)
            go_simp
            try with_reducible rfl
          intro hHeld
          try simp only [Act.put, List.setIfInBounds_toArray, List.set_cons_zero, List.set_cons_succ]
          refine wpAnyR_take 7 rfl (by kernel_rfl) (by kernel_rfl) (by kernel_rfl) (by kernel_rfl) (fun _ _ _ h => h) (by rfl) (v := ?_) ?_ (by assumption) ?_
          rotate_left
          focus
            intro wS hSw
            (try dsimp only at hSw)
            go_simp
            try with_reducible rfl
          intro hHeld
          try simp only [Act.put, List.setIfInBounds_toArray, List.set_cons_zero, List.set_cons_succ]
          refine wpAnyR_take 8 rfl (by kernel_rfl) (by kernel_rfl) (by kernel_rfl) (by kernel_rfl) (fun _ _ _ h => h) (by rfl) (v := ?_) ?_ (by assumption) ?_
          rotate_left
          focus
            intro wS hSw
            (try dsimp only at hSw)
            go_simp
            try with_reducible rfl
          intro hHeld
          try simp only [Act.put, List.setIfInBounds_toArray, List.set_cons_zero, List.set_cons_succ]
          refine wpAnyR_take 9 rfl (by kernel_rfl) (by kernel_rfl) (by kernel_rfl) (by kernel_rfl) (fun _ _ _ h => h) (by rfl) (v := ?_) ?_ (by assumption) ?_
          rotate_left
          focus
            intro wS hSw
            (try dsimp only at hSw)
            go_simp
            try with_reducible rfl
          intro hHeld
          try simp only [Act.put, List.setIfInBounds_toArray, List.set_cons_zero, List.set_cons_succ]
          refine wpAnyR_take 10 rfl (by kernel_rfl) (by kernel_rfl) (by kernel_rfl) (by kernel_rfl) (fun _ _ _ h => h) (by rfl) (v := ?_) ?_ (by assumption) ?_
          rotate_left
          focus
            intro wS hSw
            (try dsimp only at hSw)
            go_simp
            try with_reducible rfl
          intro hHeld
          try simp only [Act.put, List.setIfInBounds_toArray, List.set_cons_zero, List.set_cons_succ]
          refine wpAnyR_take 11 rfl (by kernel_rfl) (by kernel_rfl) (by kernel_rfl) (by kernel_rfl) (fun _ _ _ h => h) (by rfl) (v := ?_) ?_ (by assumption) ?_
          rotate_left
          focus
            intro wS hSw
            (try dsimp only at hSw)
            go_simp
            try with_reducible rfl
          intro hHeld
          try simp only [Act.put, List.setIfInBounds_toArray, List.set_cons_zero, List.set_cons_succ]
          refine wpAnyR_done (by kernel_rfl) ?_
          refine NoPanic.normal ?_
          clear hed hbd
          have HB3 := Lib.hid HBE.out.drew
          have HO3 := Lib.hid HOW.out.drew
          have HOL2 := HOL
          go_wp2_with fail
          have hee := HEL.out _ HB3.out.drew
          have hbx9 := HBX.out _ HB3.out.drew
          by_cases hts : sy = s
          · obtain rfl : s = sy := hts.symm
            clear hts
            rw [if_pos rfl] at hm
            have hM2 := Lib.hid hm
            clear hm
            go_upto_region 9 with fail
            refine wp_region_heldR (fun w' => w'.cell? ⟨g, o + i * 6, none⟩ = some (.string s) ∧ w'.cell? ⟨w.heap.size, 0, none⟩ = some (.string s)) 1000 (by kernel_rfl) ⟨hee.1, hbx9.1⟩ (fun hHeld => ?_)
            refine wpAnyR_take 0 rfl (by kernel_rfl) (by kernel_rfl) (by kernel_rfl) (by kernel_rfl) (fun _ _ _ h => h) (by rfl) (v := ?_) ?_ (by assumption) ?_
            rotate_left
            focus
              intro wS hSw
              (try dsimp only at hSw)
              go_simp
              try with_reducible rfl
            intro hHeld
            try simp only [Act.put, List.setIfInBounds_toArray, List.set_cons_zero, List.set_cons_succ]
            refine wpAnyR_take 1 rfl (by kernel_rfl) (by kernel_rfl) (by kernel_rfl) (by kernel_rfl) (fun _ _ _ h => h) (by rfl) (v := ?_) ?_ (by assumption) ?_
            rotate_left
            focus
              intro wS hSw
              (try dsimp only at hSw)
              go_simp
              try with_reducible rfl
            intro hHeld
            try simp only [Act.put, List.setIfInBounds_toArray, List.set_cons_zero, List.set_cons_succ]
            refine wpAnyR_take 2 rfl (by kernel_rfl) (by kernel_rfl) (by kernel_rfl) (by kernel_rfl) (fun _ _ _ h => h) (by rfl) (v := ?_) ?_ (by assumption) ?_
            rotate_left
            focus
              intro wS hSw
              (try dsimp only at hSw)
              go_simp
              try with_reducible rfl
            intro hHeld
            try simp only [Act.put, List.setIfInBounds_toArray, List.set_cons_zero, List.set_cons_succ]
            refine wpAnyR_take 3 rfl (by kernel_rfl) (by kernel_rfl) (by kernel_rfl) (by kernel_rfl) (fun _ _ _ h => h) (by rfl) (v := ?_) ?_ (by assumption) ?_
            rotate_left
            focus
              intro wS hSw
              (try dsimp only at hSw)
              go_simp
              try with_reducible rfl
            intro hHeld
            try simp only [Act.put, List.setIfInBounds_toArray, List.set_cons_zero, List.set_cons_succ]
            refine wpAnyR_take 4 rfl (by kernel_rfl) (by kernel_rfl) (by kernel_rfl) (by kernel_rfl) (fun _ _ _ h => h) (by rfl) (v := ?_) ?_ (by assumption) ?_
            rotate_left
            focus
              intro wS hSw
              (try dsimp only at hSw)
              go_simp
              try with_reducible rfl
            intro hHeld
            try simp only [Act.put, List.setIfInBounds_toArray, List.set_cons_zero, List.set_cons_succ]
            refine wpAnyR_take 5 rfl (by kernel_rfl) (by kernel_rfl) (by kernel_rfl) (by kernel_rfl) (fun _ _ _ h => h) (by rfl) (v := ?_) ?_ (by assumption) ?_
            rotate_left
            focus
              intro wS hSw
              (try dsimp only at hSw)
              go_simp
              try with_reducible rfl
            intro hHeld
            try simp only [Act.put, List.setIfInBounds_toArray, List.set_cons_zero, List.set_cons_succ]
            refine wpAnyR_take 6 rfl (by kernel_rfl) (by kernel_rfl) (by kernel_rfl) (by kernel_rfl) (fun _ _ _ h => h) (by rfl) (v := ?_) ?_ (by assumption) ?_
            rotate_left
            focus
              intro wS hSw
              (try dsimp only at hSw)
              go_simp
              try with_reducible rfl
            intro hHeld
            try simp only [Act.put, List.setIfInBounds_toArray, List.set_cons_zero, List.set_cons_succ]
            refine wpAnyR_take 7 rfl (by kernel_rfl) (by kernel_rfl) (by kernel_rfl) (by kernel_rfl) (fun _ _ _ h => h) (by rfl) (v := ?_) ?_ (by assumption) ?_
            rotate_left
            focus
              intro wS hSw
              (try dsimp only at hSw)
              go_simp
              try with_reducible rfl
            intro hHeld
            try simp only [Act.put, List.setIfInBounds_toArray, List.set_cons_zero, List.set_cons_succ]
            refine wpAnyR_done (by kernel_rfl) ?_
            refine NoPanic.normal ?_
            clear hee hbx9
            go_wp2_with fail
            go_roundw
            case rel => exact ⟨i + 1, _, _, O, false, by omega, by go_num, rfl, by first | rfl | simp only [Ens.snoc_len], hM2, Lib.hid HB3.out.drew, Lib.hid HO3.out.drew⟩
            case measure => simp [intOf]; omega
          · rw [if_neg hts] at hm
            rw [← Ens.snoc_app] at hm
            have hM2 := Lib.hid hm
            have nts := str_ne hts
            have HAP2 := Lib.hid (HO3.out.drew.lit2 sy y (ObR.keep (w := w) (w' := World.drew wr.drew) (S := Sd) (fun b hb' => (HLO.out _ HB3.out.drew).block b (HSd.out b hb')) (fun b hb' => ⟨.inl hb', Nat.lt_of_lt_of_le (HT.out b hb') HB3.out.drew.size, fun e => by have := HO3.out.drew.owned b e; have := HT.out b hb'; omega⟩) y HYR.out) (by have := HOL2.out; omega) HB3.out.drew.size HT.out)
            clear hm
            go_upto_region 9 with fail
            refine wp_region_heldR (fun w' => w'.cell? ⟨g, o + i * 6, none⟩ = some (.string sy) ∧ w'.cell? ⟨w.heap.size, 0, none⟩ = some (.string s)) 1000 (by kernel_rfl) ⟨hee.1, hbx9.1⟩ (fun hHeld => ?_)
            refine wpAnyR_take 0 rfl (by kernel_rfl) (by kernel_rfl) (by kernel_rfl) (by kernel_rfl) (fun _ _ _ h => h) (by rfl) (v := ?_) ?_ (by assumption) ?_
            rotate_left
            focus
              intro wS hSw
              (try dsimp only at hSw)
              go_simp
              try with_reducible rfl
            intro hHeld
            try simp only [Act.put, List.setIfInBounds_toArray, List.set_cons_zero, List.set_cons_succ]
            refine wpAnyR_take 1 rfl (by kernel_rfl) (by kernel_rfl) (by kernel_rfl) (by kernel_rfl) (fun _ _ _ h => h) (by rfl) (v := ?_) ?_ (by assumption) ?_
            rotate_left
            focus
              intro wS hSw
              (try dsimp only at hSw)
              go_simp
              try with_reducible rfl
            intro hHeld
            try simp only [Act.put, List.setIfInBounds_toArray, List.set_cons_zero, List.set_cons_succ]
            refine wpAnyR_take 2 rfl (by kernel_rfl) (by kernel_rfl) (by kernel_rfl) (by kernel_rfl) (fun _ _ _ h => h) (by rfl) (v := ?_) ?_ (by assumption) ?_
            rotate_left
            focus
              intro wS hSw
              (try dsimp only at hSw)
              go_simp
              try with_reducible rfl
            intro hHeld
            try simp only [Act.put, List.setIfInBounds_toArray, List.set_cons_zero, List.set_cons_succ]
            refine wpAnyR_take 3 rfl (by kernel_rfl) (by kernel_rfl) (by kernel_rfl) (by kernel_rfl) (fun _ _ _ h => h) (by rfl) (v := ?_) ?_ (by assumption) ?_
            rotate_left
            focus
              intro wS hSw
              (try dsimp only at hSw)
              go_simp
              try with_reducible rfl
            intro hHeld
            try simp only [Act.put, List.setIfInBounds_toArray, List.set_cons_zero, List.set_cons_succ]
            refine wpAnyR_take 4 rfl (by kernel_rfl) (by kernel_rfl) (by kernel_rfl) (by kernel_rfl) (fun _ _ _ h => h) (by rfl) (v := ?_) ?_ (by assumption) ?_
            rotate_left
            focus
              intro wS hSw
              (try dsimp only at hSw)
              go_simp
              try with_reducible rfl
            intro hHeld
            try simp only [Act.put, List.setIfInBounds_toArray, List.set_cons_zero, List.set_cons_succ]
            refine wpAnyR_take 5 rfl (by kernel_rfl) (by kernel_rfl) (by kernel_rfl) (by kernel_rfl) (fun _ _ _ h => h) (by rfl) (v := ?_) ?_ (by assumption) ?_
            rotate_left
            focus
              intro wS hSw
              (try dsimp only at hSw)
              go_simp
              try with_reducible rfl
            intro hHeld
            try simp only [Act.put, List.setIfInBounds_toArray, List.set_cons_zero, List.set_cons_succ]
            refine wpAnyR_take 6 rfl (by kernel_rfl) (by kernel_rfl) (by kernel_rfl) (by kernel_rfl) (fun _ _ _ h => h) (by rfl) (v := ?_) ?_ (by assumption) ?_
            rotate_left
            focus
              intro wS hSw
              (try dsimp only at hSw)
              go_simp
              try with_reducible rfl
            intro hHeld
            try simp only [Act.put, List.setIfInBounds_toArray, List.set_cons_zero, List.set_cons_succ]
            refine wpAnyR_take 7 rfl (by kernel_rfl) (by kernel_rfl) (by kernel_rfl) (by kernel_rfl) (fun _ _ _ h => h) (by rfl) (v := ?_) ?_ (by assumption) ?_
            rotate_left
            focus
              intro wS hSw
              (try dsimp only at hSw)
              go_simp
              try with_reducible rfl
            intro hHeld
            try simp only [Act.put, List.setIfInBounds_toArray, List.set_cons_zero, List.set_cons_succ]
            refine wpAnyR_done (by kernel_rfl) ?_
            refine NoPanic.normal ?_
            obtain ⟨ks, k0, k1, k2, k3, k4⟩ := hee
            clear hbx9
            go_wp2_with (at_builtin; obtain ⟨A7, c7, w7, hrun7, ho7, hb7⟩ := HAP2.out; refine Lib.wpList_append_run_sl _ rfl (.tmp 47) (.tmp 52) 24 rfl _ _ rfl rfl hrun7 ?_; clear hrun7; have HO7 := Lib.hid ho7; have HB7 := Lib.hid (HB3.out.drew.trans hb7); clear ho7 hb7)
            go_roundw
            case rel => exact ⟨i + 1, c7, A7, Ens.snoc O sy y, false, by omega, by go_num, rfl, by simp only [Ens.snoc_len], hM2, HB7, by rw [Ens.snoc_len]; exact HO7⟩
            case measure => simp [intOf]; omega
      · rw [if_neg (fun h => by cases h.1)] at hm
        go_upto_region 6 with fail
        refine wp_region_heldR (fun w' => w'.cell? ⟨g, o + i * 6, none⟩ = some (.string sy) ∧ w'.cell? ⟨w.heap.size, 0, none⟩ = some (.string s)) 1000 (by kernel_rfl) ⟨hed.1, hbd.1⟩ (fun hHeld => ?_)
        refine wpAnyR_take 0 rfl (by kernel_rfl) (by kernel_rfl) (by kernel_rfl) (by kernel_rfl) (fun _ _ _ h => h) (by rfl) (v := ?_) ?_ (by assumption) ?_
        rotate_left
        focus
          intro wS hSw
          (try dsimp only at hSw)
          go_simp
          try with_reducible rfl
        intro hHeld
        try simp only [Act.put, List.setIfInBounds_toArray, List.set_cons_zero, List.set_cons_succ]
        refine wpAnyR_take 1 rfl (by kernel_rfl) (by kernel_rfl) (by kernel_rfl) (by kernel_rfl) (fun _ _ _ h => h) (by rfl) (v := ?_) ?_ (by assumption) ?_
        rotate_left
        focus
          intro wS hSw
          (try dsimp only at hSw)
          go_simp
          try with_reducible rfl
        intro hHeld
        try simp only [Act.put, List.setIfInBounds_toArray, List.set_cons_zero, List.set_cons_succ]
        refine wpAnyR_take 2 rfl (by kernel_rfl) (by kernel_rfl) (by kernel_rfl) (by kernel_rfl) (fun _ _ _ h => h) (by rfl) (v := ?_) ?_ (by assumption) ?_
        rotate_left
        focus
          intro wS hSw
          (try dsimp only at hSw)
          go_simp
          try with_reducible rfl
        intro hHeld
        try simp only [Act.put, List.setIfInBounds_toArray, List.set_cons_zero, List.set_cons_succ]
        refine wpAnyR_skip 3 rfl (by kernel_rfl) (by kernel_rfl) (by kernel_rfl) (by kernel_rfl) (fun _ _ _ h => h) (by rfl) (by assumption) ?_
        intro hHeld
        try simp only [Act.put, List.setIfInBounds_toArray, List.set_cons_zero, List.set_cons_succ]
        refine wpAnyR_skip 4 rfl (by kernel_rfl) (by kernel_rfl) (by kernel_rfl) (by kernel_rfl) (fun _ _ _ h => h) (by rfl) (by assumption) ?_
        intro hHeld
        try simp only [Act.put, List.setIfInBounds_toArray, List.set_cons_zero, List.set_cons_succ]
        refine wpAnyR_skip 5 rfl (by kernel_rfl) (by kernel_rfl) (by kernel_rfl) (by kernel_rfl) (fun _ _ _ h => h) (by rfl) (by assumption) ?_
        intro hHeld
        try simp only [Act.put, List.setIfInBounds_toArray, List.set_cons_zero, List.set_cons_succ]
        refine wpAnyR_skip 6 rfl (by kernel_rfl) (by kernel_rfl) (by kernel_rfl) (by kernel_rfl) (fun _ _ _ h => h) (by rfl) (by assumption) ?_
        intro hHeld
        try simp only [Act.put, List.setIfInBounds_toArray, List.set_cons_zero, List.set_cons_succ]
        refine wpAnyR_skip 7 rfl (by kernel_rfl) (by kernel_rfl) (by kernel_rfl) (by kernel_rfl) (fun _ _ _ h => h) (by rfl) (by assumption) ?_
        intro hHeld
        try simp only [Act.put, List.setIfInBounds_toArray, List.set_cons_zero, List.set_cons_succ]
        refine wpAnyR_skip 8 rfl (by kernel_rfl) (by kernel_rfl) (by kernel_rfl) (by kernel_rfl) (fun _ _ _ h => h) (by rfl) (by assumption) ?_
        intro hHeld
        try simp only [Act.put, List.setIfInBounds_toArray, List.set_cons_zero, List.set_cons_succ]
        refine wpAnyR_skip 9 rfl (by kernel_rfl) (by kernel_rfl) (by kernel_rfl) (by kernel_rfl) (fun _ _ _ h => h) (by rfl) (by assumption) ?_
        intro hHeld
        try simp only [Act.put, List.setIfInBounds_toArray, List.set_cons_zero, List.set_cons_succ]
        refine wpAnyR_skip 10 rfl (by kernel_rfl) (by kernel_rfl) (by kernel_rfl) (by kernel_rfl) (fun _ _ _ h => h) (by rfl) (by assumption) ?_
        intro hHeld
        try simp only [Act.put, List.setIfInBounds_toArray, List.set_cons_zero, List.set_cons_succ]
        refine wpAnyR_take 11 rfl (by kernel_rfl) (by kernel_rfl) (by kernel_rfl) (by kernel_rfl) (fun _ _ _ h => h) (by rfl) (v := ?_) ?_ (by assumption) ?_
        rotate_left
        focus
          intro wS hSw
          (try dsimp only at hSw)
          go_simp
          try with_reducible rfl
        intro hHeld
        try simp only [Act.put, List.setIfInBounds_toArray, List.set_cons_zero, List.set_cons_succ]
        refine wpAnyR_done (by kernel_rfl) ?_
        refine NoPanic.normal ?_
        clear hed hbd
        have HB3 := Lib.hid HBE.out.drew
        have HO3 := Lib.hid HOW.out.drew
        have HOL2 := HOL
        go_wp2_with fail
        have hee := HEL.out _ HB3.out.drew
        have hbx9 := HBX.out _ HB3.out.drew
        by_cases hts : sy = s
        · obtain rfl : s = sy := hts.symm
          clear hts
          rw [if_pos rfl] at hm
          have hM2 := Lib.hid hm
          clear hm
          go_upto_region 9 with fail
          refine wp_region_heldR (fun w' => w'.cell? ⟨g, o + i * 6, none⟩ = some (.string s) ∧ w'.cell? ⟨w.heap.size, 0, none⟩ = some (.string s)) 1000 (by kernel_rfl) ⟨hee.1, hbx9.1⟩ (fun hHeld => ?_)
          refine wpAnyR_take 0 rfl (by kernel_rfl) (by kernel_rfl) (by kernel_rfl) (by kernel_rfl) (fun _ _ _ h => h) (by rfl) (v := ?_) ?_ (by assumption) ?_
          rotate_left
          focus
            intro wS hSw
            (try dsimp only at hSw)
            go_simp
            try with_reducible rfl
          intro hHeld
          try simp only [Act.put, List.setIfInBounds_toArray, List.set_cons_zero, List.set_cons_succ]
          refine wpAnyR_take 1 rfl (by kernel_rfl) (by kernel_rfl) (by kernel_rfl) (by kernel_rfl) (fun _ _ _ h => h) (by rfl) (v := ?_) ?_ (by assumption) ?_
          rotate_left
          focus
            intro wS hSw
            (try dsimp only at hSw)
            go_simp
            try with_reducible rfl
          intro hHeld
          try simp only [Act.put, List.setIfInBounds_toArray, List.set_cons_zero, List.set_cons_succ]
          refine wpAnyR_take 2 rfl (by kernel_rfl) (by kernel_rfl) (by kernel_rfl) (by kernel_rfl) (fun _ _ _ h => h) (by rfl) (v := ?_) ?_ (by assumption) ?_
          rotate_left
          focus
            intro wS hSw
            (try dsimp only at hSw)
            go_simp
            try with_reducible rfl
          intro hHeld
          try simp only [Act.put, List.setIfInBounds_toArray, List.set_cons_zero, List.set_cons_succ]
          refine wpAnyR_take 3 rfl (by kernel_rfl) (by kernel_rfl) (by kernel_rfl) (by kernel_rfl) (fun _ _ _ h => h) (by rfl) (v := ?_) ?_ (by assumption) ?_
          rotate_left
          focus
            intro wS hSw
            (try dsimp only at hSw)
            go_simp
            try with_reducible rfl
          intro hHeld
          try simp only [Act.put, List.setIfInBounds_toArray, List.set_cons_zero, List.set_cons_succ]
          refine wpAnyR_take 4 rfl (by kernel_rfl) (by kernel_rfl) (by kernel_rfl) (by kernel_rfl) (fun _ _ _ h => h) (by rfl) (v := ?_) ?_ (by assumption) ?_
          rotate_left
          focus
            intro wS hSw
            (try dsimp only at hSw)
            go_simp
            try with_reducible rfl
          intro hHeld
          try simp only [Act.put, List.setIfInBounds_toArray, List.set_cons_zero, List.set_cons_succ]
          refine wpAnyR_take 5 rfl (by kernel_rfl) (by kernel_rfl) (by kernel_rfl) (by kernel_rfl) (fun _ _ _ h => h) (by rfl) (v := ?_) ?_ (by assumption) ?_
          rotate_left
          focus
            intro wS hSw
            (try dsimp only at hSw)
            go_simp
            try with_reducible rfl
          intro hHeld
          try simp only [Act.put, List.setIfInBounds_toArray, List.set_cons_zero, List.set_cons_succ]
          refine wpAnyR_take 6 rfl (by kernel_rfl) (by kernel_rfl) (by kernel_rfl) (by kernel_rfl) (fun _ _ _ h => h) (by rfl) (v := ?_) ?_ (by assumption) ?_
          rotate_left
          focus
            intro wS hSw
            (try dsimp only at hSw)
            go_simp
            try with_reducible rfl
          intro hHeld
          try simp only [Act.put, List.setIfInBounds_toArray, List.set_cons_zero, List.set_cons_succ]
          refine wpAnyR_take 7 rfl (by kernel_rfl) (by kernel_rfl) (by kernel_rfl) (by kernel_rfl) (fun _ _ _ h => h) (by rfl) (v := ?_) ?_ (by assumption) ?_
          rotate_left
          focus
            intro wS hSw
            (try dsimp only at hSw)
            go_simp
            try with_reducible rfl
          intro hHeld
          try simp only [Act.put, List.setIfInBounds_toArray, List.set_cons_zero, List.set_cons_succ]
          refine wpAnyR_done (by kernel_rfl) ?_
          refine NoPanic.normal ?_
          clear hee hbx9
          go_wp2_with fail
          go_roundw
          case rel => exact ⟨i + 1, _, _, O, true, by omega, by go_num, rfl, by first | rfl | simp only [Ens.snoc_len], hM2, Lib.hid HB3.out.drew, Lib.hid HO3.out.drew⟩
          case measure => simp [intOf]; omega
        · rw [if_neg hts] at hm
          rw [← Ens.snoc_app] at hm
          have hM2 := Lib.hid hm
          have nts := str_ne hts
          have HAP2 := Lib.hid (HO3.out.drew.lit2 sy y (ObR.keep (w := w) (w' := World.drew wr.drew) (S := Sd) (fun b hb' => (HLO.out _ HB3.out.drew).block b (HSd.out b hb')) (fun b hb' => ⟨.inl hb', Nat.lt_of_lt_of_le (HT.out b hb') HB3.out.drew.size, fun e => by have := HO3.out.drew.owned b e; have := HT.out b hb'; omega⟩) y HYR.out) (by have := HOL2.out; omega) HB3.out.drew.size HT.out)
          clear hm
          go_upto_region 9 with fail
          refine wp_region_heldR (fun w' => w'.cell? ⟨g, o + i * 6, none⟩ = some (.string sy) ∧ w'.cell? ⟨w.heap.size, 0, none⟩ = some (.string s)) 1000 (by kernel_rfl) ⟨hee.1, hbx9.1⟩ (fun hHeld => ?_)
          refine wpAnyR_take 0 rfl (by kernel_rfl) (by kernel_rfl) (by kernel_rfl) (by kernel_rfl) (fun _ _ _ h => h) (by rfl) (v := ?_) ?_ (by assumption) ?_
          rotate_left
          focus
            intro wS hSw
            (try dsimp only at hSw)
            go_simp
            try with_reducible rfl
          intro hHeld
          try simp only [Act.put, List.setIfInBounds_toArray, List.set_cons_zero, List.set_cons_succ]
          refine wpAnyR_take 1 rfl (by kernel_rfl) (by kernel_rfl) (by kernel_rfl) (by kernel_rfl) (fun _ _ _ h => h) (by rfl) (v := ?_) ?_ (by assumption) ?_
          rotate_left
          focus
            intro wS hSw
            (try dsimp only at hSw)
            go_simp
            try with_reducible rfl
          intro hHeld
          try simp only [Act.put, List.setIfInBounds_toArray, List.set_cons_zero, List.set_cons_succ]
          refine wpAnyR_take 2 rfl (by kernel_rfl) (by kernel_rfl) (by kernel_rfl) (by kernel_rfl) (fun _ _ _ h => h) (by rfl) (v := ?_) ?_ (by assumption) ?_
          rotate_left
          focus
            intro wS hSw
            (try dsimp only at hSw)
            go_simp
            try with_reducible rfl
          intro hHeld
          try simp only [Act.put, List.setIfInBounds_toArray, List.set_cons_zero, List.set_cons_succ]
          refine wpAnyR_take 3 rfl (by kernel_rfl) (by kernel_rfl) (by kernel_rfl) (by kernel_rfl) (fun _ _ _ h => h) (by rfl) (v := ?_) ?_ (by assumption) ?_
          rotate_left
          focus
            intro wS hSw
            (try dsimp only at hSw)
            go_simp
            try with_reducible rfl
          intro hHeld
          try simp only [Act.put, List.setIfInBounds_toArray, List.set_cons_zero, List.set_cons_succ]
          refine wpAnyR_take 4 rfl (by kernel_rfl) (by kernel_rfl) (by kernel_rfl) (by kernel_rfl) (fun _ _ _ h => h) (by rfl) (v := ?_) ?_ (by assumption) ?_
          rotate_left
          focus
            intro wS hSw
            (try dsimp only at hSw)
            go_simp
            try with_reducible rfl
          intro hHeld
          try simp only [Act.put, List.setIfInBounds_toArray, List.set_cons_zero, List.set_cons_succ]
          refine wpAnyR_take 5 rfl (by kernel_rfl) (by kernel_rfl) (by kernel_rfl) (by kernel_rfl) (fun _ _ _ h => h) (by rfl) (v := ?_) ?_ (by assumption) ?_
          rotate_left
          focus
            intro wS hSw
            (try dsimp only at hSw)
            go_simp
            try with_reducible rfl
          intro hHeld
          try simp only [Act.put, List.setIfInBounds_toArray, List.set_cons_zero, List.set_cons_succ]
          refine wpAnyR_take 6 rfl (by kernel_rfl) (by kernel_rfl) (by kernel_rfl) (by kernel_rfl) (fun _ _ _ h => h) (by rfl) (v := ?_) ?_ (by assumption) ?_
          rotate_left
          focus
            intro wS hSw
            (try dsimp only at hSw)
            go_simp
            try with_reducible rfl
          intro hHeld
          try simp only [Act.put, List.setIfInBounds_toArray, List.set_cons_zero, List.set_cons_succ]
          refine wpAnyR_take 7 rfl (by kernel_rfl) (by kernel_rfl) (by kernel_rfl) (by kernel_rfl) (fun _ _ _ h => h) (by rfl) (v := ?_) ?_ (by assumption) ?_
          rotate_left
          focus
            intro wS hSw
            (try dsimp only at hSw)
            go_simp
            try with_reducible rfl
          intro hHeld
          try simp only [Act.put, List.setIfInBounds_toArray, List.set_cons_zero, List.set_cons_succ]
          refine wpAnyR_done (by kernel_rfl) ?_
          refine NoPanic.normal ?_
          obtain ⟨ks, k0, k1, k2, k3, k4⟩ := hee
          clear hbx9
          go_wp2_with (at_builtin; obtain ⟨A7, c7, w7, hrun7, ho7, hb7⟩ := HAP2.out; refine Lib.wpList_append_run_sl _ rfl (.tmp 47) (.tmp 52) 24 rfl _ _ rfl rfl hrun7 ?_; clear hrun7; have HO7 := Lib.hid ho7; have HB7 := Lib.hid (HB3.out.drew.trans hb7); clear ho7 hb7)
          go_roundw
          case rel => exact ⟨i + 1, c7, A7, Ens.snoc O sy y, true, by omega, by go_num, rfl, by simp only [Ens.snoc_len], hM2, HB7, by rw [Ens.snoc_len]; exact HO7⟩
          case measure => simp [intOf]; omega
    · obtain rfl : DD = i := by omega
      have hm := HM.out
      have he := Ens.drop_end d
      rw [HDD.out] at he
      rw [he, withE] at hm
      clear he
      cases p
      · rw [if_neg (by decide), ← Ens.snoc_app, Ens.app_nil] at hm
        subst hm
        go_upto_region 12 with fail
        obtain ⟨a0, a1, a2, a3, a4, a5⟩ := HBX.out _ HBE.out.drew
        refine wp_region_heldR (fun w' => w'.cell? ⟨w.heap.size, 0, none⟩ = some (.string s) ∧ w'.cell? ⟨w.heap.size, 1, none⟩ = some (.int .i64 k) ∧ w'.cell? ⟨w.heap.size, 2, none⟩ = some c1 ∧ w'.cell? ⟨w.heap.size, 3, none⟩ = some c2 ∧ w'.cell? ⟨w.heap.size, 4, none⟩ = some c3 ∧ w'.cell? ⟨w.heap.size, 5, none⟩ = some c4) 1000 (by kernel_rfl) ⟨a0, a1, a2, a3, a4, a5⟩ (fun hHeld => ?_)
        refine wpAnyR_take 0 rfl (by kernel_rfl) (by kernel_rfl) (by kernel_rfl) (by kernel_rfl) (fun _ _ _ h => h) (by rfl) (v := ?_) ?_ (by assumption) ?_
        rotate_left
        focus
          intro wS hSw
          (try dsimp only at hSw)
          go_simp
          try with_reducible rfl
        intro hHeld
        try simp only [Act.put, List.setIfInBounds_toArray, List.set_cons_zero, List.set_cons_succ]
        refine wpAnyR_take 1 rfl (by kernel_rfl) (by kernel_rfl) (by kernel_rfl) (by kernel_rfl) (fun _ _ _ h => h) (by rfl) (v := ?_) ?_ (by assumption) ?_
        rotate_left
        focus
          intro wS hSw
          (try dsimp only at hSw)
          go_simp
          try with_reducible rfl
        intro hHeld
        try simp only [Act.put, List.setIfInBounds_toArray, List.set_cons_zero, List.set_cons_succ]
        refine wpAnyR_take 2 rfl (by kernel_rfl) (by kernel_rfl) (by kernel_rfl) (by kernel_rfl) (fun _ _ _ h => h) (by rfl) (v := ?_) ?_ (by assumption) ?_
        rotate_left
        focus
          intro wS hSw
          (try dsimp only at hSw)
          go_simp
          try with_reducible rfl
        intro hHeld
        try simp only [Act.put, List.setIfInBounds_toArray, List.set_cons_zero, List.set_cons_succ]
        refine wpAnyR_take 3 rfl (by kernel_rfl) (by kernel_rfl) (by kernel_rfl) (by kernel_rfl) (fun _ _ _ h => h) (by rfl) (v := ?_) ?_ (by assumption) ?_
        rotate_left
        focus
          intro wS hSw
          (try dsimp only at hSw)
          go_simp
          try with_reducible rfl
        intro hHeld
        try simp only [Act.put, List.setIfInBounds_toArray, List.set_cons_zero, List.set_cons_succ]
        refine wpAnyR_take 4 rfl (by kernel_rfl) (by kernel_rfl) (by kernel_rfl) (by kernel_rfl) (fun _ _ _ h => h) (by rfl) (v := ?_) ?_ (by assumption) ?_
        rotate_left
        focus
          intro wS hSw
          (try dsimp only at hSw)
          go_simp
          try with_reducible rfl
        intro hHeld
        try simp only [Act.put, List.setIfInBounds_toArray, List.set_cons_zero, List.set_cons_succ]
        refine wpAnyR_step 5 rfl (by kernel_rfl) (fun K hK => ?_)
        go_simp
        go_at_call 18
        refine (HCP.out _ HBE.out.drew).mono ?_
        rintro r w2 ⟨e0, e1, e2, e3, e4, rfl, hy2, hb2⟩
        have HAP := Lib.hid (HOW.out.drew.lit hb2 s x hy2 (by have := HOL.out; omega) HBE.out.size hT)
        have HB2 := Lib.hid (HBE.out.drew.trans (hb2.mono HBE.out.size))
        clear hy2 hb2
        go_wp2_with fail
        refine hK.out _ _ (HBX.out _ HB2.out) (fun hHeld => ?_)
        clear hK K
        try simp only [Act.put, List.setIfInBounds_toArray, List.set_cons_zero, List.set_cons_succ]
        refine wpAnyR_take 6 rfl (by kernel_rfl) (by kernel_rfl) (by kernel_rfl) (by kernel_rfl) (fun _ _ _ h => h) (by rfl) (v := ?_) ?_ (by assumption) ?_
        rotate_left
        focus
          intro wS hSw
          (try dsimp only at hSw)
          go_simp
          try with_reducible rfl
        intro hHeld
        try simp only [Act.put, List.setIfInBounds_toArray, List.set_cons_zero, List.set_cons_succ]
        refine wpAnyR_step 7 rfl (by kernel_rfl) (fun K hK => ?_)
        go_simp
        refine hK.out _ _ (by obtain ⟨p0, p1, p2, p3, p4, p5⟩ := HBX.out _ HB2.out; go_keep) (fun hHeld => ?_)
        clear hK K
        try simp only [Act.put, List.setIfInBounds_toArray, List.set_cons_zero, List.set_cons_succ]
        refine wpAnyR_step 8 rfl (by kernel_rfl) (fun K hK => ?_)
        obtain ⟨A6, c6, w3, hrun, ho6, hb6⟩ := HAP.out
        refine step_append_run9 rfl (.tmp 56) (.tmp 63) 24 rfl (.slice AV O.len cV) (.slice (some ⟨w2.heap.size, 0, none⟩) 1 1) rfl rfl hrun ?_
        have HB3 := Lib.hid (HB2.out.trans hb6)
        have HO3 := Lib.hid ho6
        clear hrun ho6 hb6
        refine hK.out _ _ (HBX.out _ HB3.out) (fun hHeld => ?_)
        clear hK K
        try simp only [Act.put, List.setIfInBounds_toArray, List.set_cons_zero, List.set_cons_succ]
        refine wpAnyR_take 9 rfl (by kernel_rfl) (by kernel_rfl) (by kernel_rfl) (by kernel_rfl) (fun _ _ _ h => h) (by rfl) (v := ?_) ?_ (by assumption) ?_
        rotate_left
        focus
          intro wS hSw
          (try dsimp only at hSw)
          go_simp
          try with_reducible rfl
        intro hHeld
        try simp only [Act.put, List.setIfInBounds_toArray, List.set_cons_zero, List.set_cons_succ]
        refine wpAnyR_done (by kernel_rfl) ?_
        refine NoPanic.normal ?_
        go_wp2_with fail
        go_ret
        have h3 := HO3.out
        rw [← Ens.snoc_len O s x] at h3
        obtain ⟨AX, cX, eX, hcX, hxX⟩ := h3.shape
        injection eX with e1 e2 e3
        subst e1 e3
        refine ⟨A6, c6, by rw [Ens.snoc_len]; rfl, hcX, fun h0 => ?_, HLO.out _ HB3.out⟩
        obtain ⟨g, o, e, hg, hx⟩ := hxX h0
        have key : ∀ b, (Sd b ∨ W1.heap.size ≤ b) ∧ b < w3.heap.size → (Sd b ∨ w.heap.size ≤ b) ∧ b < w3.heap.size := fun b hb => ⟨hb.1.imp id (fun h => by have := HS1.out; omega), hb.2⟩
        exact ⟨g, o, e, key g hg, EnsR.keep (fun _ _ => rfl) key _ g o (key g hg) hg hx⟩
      · rw [if_pos rfl, Ens.app_nil] at hm
        subst hm
        go_wp2_with fail
        go_ret
        obtain ⟨AX, cX, eX, hcX, hxX⟩ := HOW.out.shape
        injection eX with e1 e2 e3
        subst e1 e3
        refine ⟨AV, cV, rfl, hcX, fun h0 => ?_, HLO.out _ HBE.out⟩
        obtain ⟨g, o, e, hg, hx⟩ := hxX h0
        have key : ∀ b, (Sd b ∨ W1.heap.size ≤ b) ∧ b < wr.heap.size → (Sd b ∨ w.heap.size ≤ b) ∧ b < wr.heap.size := fun b hb => ⟨hb.1.imp id (fun h => by have := HS1.out; omega), hb.2⟩
        exact ⟨g, o, e, key g hg, EnsR.keep (fun _ _ => rfl) key _ g o (key g hg) hg hx⟩
end
end Go.Proofs.YtliieeagbpmcgaaDoor
