/- What the document's own Parse (of chapter 2) answers. -/
import Derived.Test.YtojbhckgegoldaaBytes
import Derived.Outline
import Derived.LoopTactic
import Derived.WalkLawsBesides
namespace Go.Proofs.Ytojbhckgegoldaa
open Go.RowKit
set_option linter.unusedVariables false

/-- How many points, how many digits; none: another byte. -/
def scanP : List Int → Nat → Nat → Option (Nat × Nat)
  | [], P, D => some (P, D)
  | z :: r, P, D => if z = 46 then scanP r (P + 1) D else if 48 ≤ z ∧ z ≤ 57 then scanP r P (D + 1) else none
/-- The whole part, and what is left from the point on; none: it is above the greatest. -/
def wholeZ : List Int → Int → Option (Int × List Int)
  | [], a => some (a, [])
  | z :: r, a => if z = 46 then some (a, z :: r) else if 2147483647 < 10 * a + (z - 48) then none else wholeZ r (10 * a + (z - 48))
/-- k digits behind the point, noughts where there are none. -/
def fracK (l : List Int) : Nat → Int
  | 0 => 0
  | k + 1 => 10 * fracK l k + (if k < l.length then l.getD k 0 - 48 else 0)
def sgZ (neg : Bool) (v : Int) : Int := if neg = true then -v else v
def restS (neg : Bool) (l : List Int) : Int × Bool × Int :=
  match scanP l 0 0 with
  | none => (0, false, 4)
  | some (P, D) => if 1 < P ∨ D = 0 then (0, false, 4) else
    match wholeZ l 0 with
    | none => (0, false, 5)
    | some (v, r) => if P = 0 then (sgZ neg v, true, 0) else (sgZ neg (v * 100000 + fracK (r.drop 1) 5), false, 0)
def parseS : List Int → Int × Bool × Int
  | [] => restS false []
  | z :: r => if z = 43 then restS false r else if z = 45 then restS true r else restS false (z :: r)
def ParseOut (x : Int × Bool × Int) (w : World) (e : Ending) (w' : World) : Prop := e = .returned (.tuple #[.int .i64 x.1, .bool x.2.1, .int .i64 x.2.2]) ∧ w = w'

theorem drop_getD (zs : List Int) (k : Nat) (h : k < zs.length) : zs.drop k = zs.getD k 0 :: zs.drop (k + 1) := by
  rw [List.drop_eq_getElem_cons h]; simp [List.getD, h]
theorem scanP_ok : ∀ (l : List Int) (P D : Nat) (x : Nat × Nat), scanP l P D = some x → ∀ z ∈ l, z = 46 ∨ (48 ≤ z ∧ z ≤ 57)
  | [], _, _, _, _ => fun _ h => by cases h
  | z :: r, P, D, x, h => fun y hy => by
    rw [scanP] at h
    split at h
    · next h1 =>
      rcases List.mem_cons.1 hy with rfl | hy
      · exact .inl h1
      · exact scanP_ok r _ _ x h y hy
    · split at h
      · next h2 =>
        rcases List.mem_cons.1 hy with rfl | hy
        · exact .inr h2
        · exact scanP_ok r _ _ x h y hy
      · cases h
theorem scanP_mono : ∀ (l : List Int) (P D : Nat) (x : Nat × Nat), scanP l P D = some x → P ≤ x.1 ∧ (P = x.1 → ∀ z ∈ l, z ≠ 46)
  | [], P, D, x, h => by simp [scanP] at h; subst h; exact ⟨Nat.le_refl _, fun _ _ h => by cases h⟩
  | z :: r, P, D, x, h => by
    rw [scanP] at h
    split at h
    · have := scanP_mono r _ _ x h
      exact ⟨by omega, fun e => by omega⟩
    · next h1 =>
      split at h
      · have := scanP_mono r _ _ x h
        exact ⟨this.1, fun e y hy => by
          rcases List.mem_cons.1 hy with rfl | hy
          · exact h1
          · exact this.2 e y hy⟩
      · cases h

theorem fracK_bd (l : List Int) (h : ∀ z ∈ l, 48 ≤ z ∧ z ≤ 57) : ∀ j, 0 ≤ fracK l j ∧ fracK l j < 10 ^ j
  | 0 => by simp [fracK]
  | j + 1 => by
    have ih := fracK_bd l h j
    have e : (10 : Int) ^ (j + 1) = 10 ^ j * 10 := Int.pow_succ 10 j
    rw [fracK, e]
    split
    · next hj =>
      have e2 : l.getD j 0 = l[j] := by simp [List.getD, hj]
      have := h _ (List.getElem_mem hj)
      rw [e2]
      omega
    · omega
theorem fracK_bd5 (l : List Int) (h : ∀ z ∈ l, 48 ≤ z ∧ z ≤ 57) (j : Nat) (hj : j ≤ 5) : 0 ≤ fracK l j ∧ fracK l j ≤ 99999 := by
  have h1 := fracK_bd l h j
  have h2 : (10 : Int) ^ j ≤ 100000 := by
    match j, hj with
    | 0, _ => decide
    | 1, _ => decide
    | 2, _ => decide
    | 3, _ => decide
    | 4, _ => decide
    | 5, _ => decide
  omega
theorem fracK_bd4 (l : List Int) (h : ∀ z ∈ l, 48 ≤ z ∧ z ≤ 57) (j : Nat) (hj : j ≤ 4) : 0 ≤ fracK l j ∧ fracK l j ≤ 9999 := by
  have h1 := fracK_bd l h j
  have h2 : (10 : Int) ^ j ≤ 10000 := by
    match j, hj with
    | 0, _ => decide
    | 1, _ => decide
    | 2, _ => decide
    | 3, _ => decide
    | 4, _ => decide
  omega
theorem ret_3 {a b c a' b' c' : Value} (h1 : a = a') (h2 : b = b') (h3 : c = c') : Ending.returned (.tuple #[a, b, c]) = .returned (.tuple #[a', b', c']) := by rw [h1, h2, h3]

theorem getD_drop (l : List Int) (a j : Nat) : (l.drop a).getD j 0 = l.getD (a + j) 0 := by
  rw [List.getD_eq_getElem?_getD, List.getD_eq_getElem?_getD, List.getElem?_drop]
set_option maxRecDepth 100000 in
set_option maxHeartbeats 4000000 in
theorem refParse (A : Option Addr) (n c B : Nat) (zs : List Int) (w : World) (hb : Byt w B A n c zs) (hn : n ≤ 1000000) :
    Calls Try.prog 70 #[.slice A n c] w (ParseOut (parseS zs) w) := by
  have HB := Lib.hid hb
  have HLEN := Lib.hid hb.len
  have hways : ∃ (AT : Nat) (NEG : Bool), AT ≤ n ∧ parseS zs = restS NEG (zs.drop AT) ∧ ((n = 0 ∧ AT = 0 ∧ NEG = false) ∨ (0 < n ∧ ∃ z : Int, zs.getD 0 0 = z ∧ ((z = 43 ∧ AT = 1 ∧ NEG = false) ∨ (z = 45 ∧ AT = 1 ∧ NEG = true) ∨ (z ≠ 43 ∧ z ≠ 45 ∧ AT = 0 ∧ NEG = false)))) := by
    have hl := hb.len
    match zs, hl with
    | [], hl => exact ⟨0, false, by omega, rfl, .inl ⟨by simpa using hl.symm, rfl, rfl⟩⟩
    | z :: r, hl =>
      have h0 : 0 < n := by rw [← hl]; simp
      by_cases h1 : z = 43
      · exact ⟨1, false, by omega, by simp [parseS, h1], .inr ⟨h0, z, rfl, .inl ⟨h1, rfl, rfl⟩⟩⟩
      · by_cases h2 : z = 45
        · exact ⟨1, true, by omega, by simp [parseS, h2], .inr ⟨h0, z, rfl, .inr (.inl ⟨h2, rfl, rfl⟩)⟩⟩
        · exact ⟨0, false, by omega, by simp [parseS, h1, h2], .inr ⟨h0, z, rfl, .inr (.inr ⟨h1, h2, rfl, rfl⟩)⟩⟩
  obtain ⟨AT, NEG, hat, hps, hw⟩ := hways
  have HPS := Lib.hid hps
  clear hps
  have hstart : (n = 0 ∧ AT = 0 ∧ NEG = false) ∨ (∃ z : Int, 0 < n ∧ zs.getD 0 0 = z ∧ z = 43 ∧ AT = 1 ∧ NEG = false) ∨ (∃ z : Int, 0 < n ∧ zs.getD 0 0 = z ∧ z = 45 ∧ AT = 1 ∧ NEG = true) ∨ (∃ z : Int, 0 < n ∧ zs.getD 0 0 = z ∧ (z == 43) = false ∧ (z == 45) = false ∧ AT = 0 ∧ NEG = false) := by
    rcases hw with h | ⟨h0, z, hz, h | h | ⟨h1, h2, h3⟩⟩
    · exact .inl h
    · exact .inr (.inl ⟨z, h0, hz, h⟩)
    · exact .inr (.inr (.inl ⟨z, h0, hz, h⟩))
    · exact .inr (.inr (.inr ⟨z, h0, hz, beq_eq_false_iff_ne.2 h1, beq_eq_false_iff_ne.2 h2, h3⟩))
  clear hw hb
  rcases hstart with ⟨hn0, ha, hg⟩ | ⟨z, h0, hz, h43, ha, hg⟩ | ⟨z, h0, hz, h45, ha, hg⟩ | ⟨z, h0, hz, hn43, hn45, ha, hg⟩
  · have HAT := Lib.hid ha
    have HNG := Lib.hid hg
    have HN0 := Lib.hid hn0
    have hnl : ¬ (0 : Int) < n := by omega
    clear ha hg hn0
    go_enter Try.func70, Try.ntmps70
    go_wp2
    go_loop [7, 8, 9] (fun pts dg i => ∃ k P D : Nat, AT ≤ k ∧ k ≤ n ∧ i = .int .i64 k ∧ pts = .int .i64 P ∧ dg = .int .i64 D ∧ P ≤ k ∧ D ≤ k ∧ Hid (scanP (zs.drop AT) 0 0 = scanP (zs.drop k) P D)) (fun _ _ i => n - (intOf i).toNat)
    case atStart => exact ⟨AT, 0, 0, Nat.le_refl _, hat, by rw [HAT.out]; rfl, rfl, rfl, Nat.zero_le _, Nat.zero_le _, rfl⟩
    case round =>
      obtain ⟨k, P, D, hk1, hk, rfl, rfl, rfl, hP, hD, hsc⟩ := hrel
      by_cases hlt : k < n
      · exact absurd HN0.out (by omega)
      · have HSC : Hid (scanP (zs.drop AT) 0 0 = some (P, D)) := Lib.hid (by rw [hsc.out, List.drop_of_length_le (by rw [HLEN.out]; omega)]; rfl)
        clear hsc
        by_cases hbad : 1 < P ∨ D = 0
        · have HS : Hid (parseS zs = (0, false, 4)) := Lib.hid (by
            rw [HPS.out, restS, HSC.out]
            simp only [if_pos hbad])
          have hb2 : (decide ((1 : Int) < P) = true) ∨ (decide ((1 : Int) < P) = false ∧ ((D : Int) == 0) = true) := by
            by_cases h : 1 < P
            · exact .inl (decide_eq_true (by omega))
            · exact .inr ⟨decide_eq_false (by omega), by simp; omega⟩
          clear hbad
          rcases hb2 with hb2 | ⟨hb2, hb3⟩
          all_goals
            go_wp2
            go_ret3
            exact ⟨by rw [HS.out]; rfl, rfl⟩
        · exact absurd (Or.inr (by have := HN0.out; omega)) hbad
  · have HAT := Lib.hid ha
    have HNG := Lib.hid hg
    obtain ⟨b, o, rfl, _, hc0⟩ := HB.out.cell h0
    have ck : w.cell? ⟨b, o, none⟩ = some (.int .u8 43) := by
      have h := hc0 0 h0
      rw [hz, h43, Nat.add_zero] at h
      exact h
    clear ha hg hc0 hz h43
    go_enter Try.func70, Try.ntmps70
    go_wp2
    go_loop [7, 8, 9] (fun pts dg i => ∃ k P D : Nat, AT ≤ k ∧ k ≤ n ∧ i = .int .i64 k ∧ pts = .int .i64 P ∧ dg = .int .i64 D ∧ P ≤ k ∧ D ≤ k ∧ Hid (scanP (zs.drop AT) 0 0 = scanP (zs.drop k) P D)) (fun _ _ i => n - (intOf i).toNat)
    case atStart => exact ⟨AT, 0, 0, Nat.le_refl _, hat, by rw [HAT.out]; rfl, rfl, rfl, Nat.zero_le _, Nat.zero_le _, rfl⟩
    case round =>
      obtain ⟨k, P, D, hk1, hk, rfl, rfl, rfl, hP, hD, hsc⟩ := hrel
      by_cases hlt : k < n
      · obtain ⟨b', o', hA', _, hc⟩ := HB.out.cell (by omega)
        obtain ⟨rfl, rfl⟩ : b = b' ∧ o = o' := by injection hA' with hA'; injection hA' with h1 h2; exact ⟨h1, h2⟩
        have ck2 := hc k hlt
        have hdr := drop_getD zs k (by rw [HLEN.out]; exact hlt)
        have hgz := HB.out.getD k
        obtain ⟨y, hy⟩ : ∃ y, zs.getD k 0 = y := ⟨_, rfl⟩
        rw [hy] at ck2 hdr hgz
        have HDR := Lib.hid hdr
        obtain ⟨y0, y1⟩ := hgz
        clear hc hy hdr
        by_cases hp : y = 46
        · subst hp
          have HS : Hid (scanP (zs.drop AT) 0 0 = scanP (zs.drop (k + 1)) (P + 1) D) := Lib.hid (by rw [hsc.out, HDR.out, scanP, if_pos rfl])
          clear y0 y1
          go_wp2
          go_round
          case rel => exact ⟨k + 1, P + 1, D, by omega, by omega, by go_num, by go_num, rfl, by omega, by omega, HS⟩
          case measure => simp [intOf] <;> omega
        · have hp2 : (y == 46) = false := beq_eq_false_iff_ne.2 hp
          by_cases hd : 48 ≤ y ∧ y ≤ 57
          · have HS : Hid (scanP (zs.drop AT) 0 0 = scanP (zs.drop (k + 1)) P (D + 1)) := Lib.hid (by rw [hsc.out, HDR.out, scanP, if_neg hp, if_pos hd])
            obtain ⟨d0, d1⟩ := hd
            clear hp
            go_wp2
            go_round
            case rel => exact ⟨k + 1, P, D + 1, by omega, by omega, by go_num, rfl, by go_num, by omega, by omega, HS⟩
            case measure => simp [intOf] <;> omega
          · have HS : Hid (parseS zs = (0, false, 4)) := Lib.hid (by
              rw [HPS.out, restS, hsc.out, HDR.out, scanP, if_neg hp, if_neg hd])
            have hd2 : (decide (48 ≤ y) = false) ∨ (decide (48 ≤ y) = true ∧ decide (y ≤ 57) = false) := by
              by_cases h : 48 ≤ y
              · exact .inr ⟨decide_eq_true h, decide_eq_false (by omega)⟩
              · exact .inl (decide_eq_false h)
            clear hp hd
            rcases hd2 with hd2 | ⟨hd2, hd3⟩
            all_goals
              go_wp2
              go_ret3
              exact ⟨by rw [HS.out]; rfl, rfl⟩
      · have HSC : Hid (scanP (zs.drop AT) 0 0 = some (P, D)) := Lib.hid (by rw [hsc.out, List.drop_of_length_le (by rw [HLEN.out]; omega)]; rfl)
        clear hsc
        by_cases hbad : 1 < P ∨ D = 0
        · have HS : Hid (parseS zs = (0, false, 4)) := Lib.hid (by
            rw [HPS.out, restS, HSC.out]
            simp only [if_pos hbad])
          have hb2 : (decide ((1 : Int) < P) = true) ∨ (decide ((1 : Int) < P) = false ∧ ((D : Int) == 0) = true) := by
            by_cases h : 1 < P
            · exact .inl (decide_eq_true (by omega))
            · exact .inr ⟨decide_eq_false (by omega), by simp; omega⟩
          clear hbad
          rcases hb2 with hb2 | ⟨hb2, hb3⟩
          all_goals
            go_wp2
            go_ret3
            exact ⟨by rw [HS.out]; rfl, rfl⟩
        · have hP1 : P ≤ 1 := by omega
          have hD1 : ((D : Int) == 0) = false := beq_eq_false_iff_ne.2 (by omega)
          have hP1i : ¬ (1 : Int) < P := by omega
          have HOKZ : Hid (∀ z ∈ zs.drop AT, z = 46 ∨ (48 ≤ z ∧ z ≤ 57)) := Lib.hid (scanP_ok _ _ _ _ HSC.out)
          have HREST : Hid (parseS zs = match wholeZ (zs.drop AT) 0 with | none => (0, false, 5) | some (v, r) => if P = 0 then (sgZ NEG v, true, 0) else (sgZ NEG (v * 100000 + fracK (r.drop 1) 5), false, 0)) := Lib.hid (by
            rw [HPS.out, restS, HSC.out]
            simp only [if_neg hbad])
          clear hbad
          go_wp2
          go_loop [10, 11] (fun a i => ∃ (k D' : Nat) (v : Int), AT ≤ k ∧ k ≤ n ∧ i = .int .i64 k ∧ a = .int .i64 v ∧ 0 ≤ v ∧ v ≤ 2147483647 ∧ Hid (wholeZ (zs.drop AT) 0 = wholeZ (zs.drop k) v) ∧ Hid (scanP (zs.drop AT) 0 0 = scanP (zs.drop k) 0 D')) (fun _ i => n - (intOf i).toNat)
          case atStart => exact ⟨AT, 0, 0, Nat.le_refl _, hat, by rw [HAT.out]; rfl, rfl, by omega, by omega, rfl, rfl⟩
          case round =>
            obtain ⟨q, D', v, hq1, hq, rfl, rfl, v0, v1, hwh, hsc2⟩ := hrel
            have HWH := Lib.hid hwh.out
            have after : ∀ (V : Int), V = v → (q = n ∨ zs.drop q = 46 :: zs.drop (q + 1)) → Hid (parseS zs = if P = 0 then (sgZ NEG v, true, 0) else (sgZ NEG (v * 100000 + fracK (zs.drop (q + 1)) 5), false, 0)) ∧ Hid (P ≠ 0 → ∀ y ∈ zs.drop (q + 1), 48 ≤ y ∧ y ≤ 57) := by
              intro V _ hr
              rcases hr with hr | hr
              · have e1 : zs.drop q = [] := List.drop_of_length_le (by rw [HLEN.out]; omega)
                have e2 : zs.drop (q + 1) = [] := List.drop_of_length_le (by rw [HLEN.out]; omega)
                refine ⟨Lib.hid ?_, Lib.hid (fun _ y hy => by rw [e2] at hy; cases hy)⟩
                rw [HREST.out, hwh.out, e1, e2]
                rfl
              · have hs1 := hsc2.out.symm.trans HSC.out
                rw [hr, scanP, if_pos rfl] at hs1
                have hm := scanP_mono _ _ _ _ hs1
                refine ⟨Lib.hid ?_, Lib.hid (fun h0 y hy => ?_)⟩
                · rw [HREST.out, hwh.out, hr, wholeZ, if_pos rfl]
                  rfl
                · have h1 := hm.2 (by have := hm.1; simp at this ⊢; omega) y hy
                  have h2 := HOKZ.out y (by
                    have : zs.drop (q + 1) = (zs.drop AT).drop (q + 1 - AT) := by rw [List.drop_drop]; congr 1; omega
                    rw [this] at hy
                    exact List.mem_of_mem_drop hy)
                  rcases h2 with h2 | h2
                  · exact absurd h2 h1
                  · exact h2
            by_cases hlt2 : q < n
            · obtain ⟨b', o', hA', _, hc⟩ := HB.out.cell (by omega)
              obtain ⟨rfl, rfl⟩ : b = b' ∧ o = o' := by injection hA' with hA'; injection hA' with h1 h2; exact ⟨h1, h2⟩
              have ck2 := hc q hlt2
              have hdr := drop_getD zs q (by rw [HLEN.out]; exact hlt2)
              have hgz := HB.out.getD q
              obtain ⟨y, hy⟩ : ∃ y, zs.getD q 0 = y := ⟨_, rfl⟩
              rw [hy] at ck2 hdr hgz
              have HDR := Lib.hid hdr
              obtain ⟨y0, y1⟩ := hgz
              have hyo := HOKZ.out y (by
                have : zs.drop q = (zs.drop AT).drop (q - AT) := by rw [List.drop_drop]; congr 1; omega
                have h2 : y ∈ zs.drop q := by rw [hdr]; exact List.mem_cons_self
                rw [this] at h2
                exact List.mem_of_mem_drop h2)
              clear hc hy hdr
              by_cases hp : y = 46
              · subst hp
                obtain ⟨HFIN, HDIG⟩ := after v rfl (.inr HDR.out)
                clear y0 y1 after hyo
                by_cases hP0 : P = 0
                · have hpi : ((P : Int) == 0) = true := by simp; omega
                  have HS : Hid (parseS zs = (sgZ NEG v, true, 0)) := Lib.hid (by rw [HFIN.out, if_pos hP0])
                  go_wp2
                  go_ret3
                  exact ⟨by rw [HS.out, HNG.out]; rfl, rfl⟩
                · have hpi : ((P : Int) == 0) = false := beq_eq_false_iff_ne.2 (by omega)
                  have HS : Hid (parseS zs = (sgZ NEG (v * 100000 + fracK (zs.drop (q + 1)) 5), false, 0)) := Lib.hid (by rw [HFIN.out, if_neg hP0])
                  have HDG := Lib.hid (HDIG.out hP0)
                  go_wp2
                  go_loop [12, 13] (fun ff kk => ∃ j : Nat, j ≤ 5 ∧ kk = .int .i64 j ∧ ff = .int .i64 (fracK (zs.drop (q + 1)) j)) (fun _ kk => 5 - (intOf kk).toNat)
                  case atStart => exact ⟨0, by omega, rfl, rfl⟩
                  case round =>
                    obtain ⟨j, hj, rfl, rfl⟩ := hrel
                    by_cases hj5 : j < 5
                    · have hfb := fracK_bd4 _ HDG.out j (by omega)
                      have hfs : fracK (zs.drop (q + 1)) (j + 1) = 10 * fracK (zs.drop (q + 1)) j + (if j < (zs.drop (q + 1)).length then (zs.drop (q + 1)).getD j 0 - 48 else 0) := rfl
                      obtain ⟨ff, hff⟩ : ∃ ff, fracK (zs.drop (q + 1)) j = ff := ⟨_, rfl⟩
                      rw [hff] at hfb hfs ⊢
                      obtain ⟨f0, f1⟩ := hfb
                      by_cases hin : q + 1 + j < n
                      · obtain ⟨b', o', hA', _, hc⟩ := HB.out.cell (by omega)
                        obtain ⟨rfl, rfl⟩ : b = b' ∧ o = o' := by injection hA' with hA'; injection hA' with h1 h2; exact ⟨h1, h2⟩
                        have ck3 := hc (q + 1 + j) hin
                        have hlen : j < (zs.drop (q + 1)).length := by rw [List.length_drop, HLEN.out]; omega
                        have hge : (zs.drop (q + 1)).getD j 0 = zs.getD (q + 1 + j) 0 := getD_drop zs (q + 1) j
                        have hmem : zs.getD (q + 1 + j) 0 ∈ zs.drop (q + 1) := by
                          rw [← hge]
                          have : (zs.drop (q + 1)).getD j 0 = (zs.drop (q + 1))[j] := by rw [List.getD_eq_getElem?_getD, List.getElem?_eq_getElem hlen]; rfl
                          rw [this]; exact List.getElem_mem hlen
                        have hdg := HDG.out _ hmem
                        rw [if_pos hlen, hge] at hfs
                        obtain ⟨y3, hy3⟩ : ∃ y3, zs.getD (q + 1 + j) 0 = y3 := ⟨_, rfl⟩
                        rw [hy3] at ck3 hdg hfs
                        obtain ⟨g0, g1⟩ := hdg
                        have HFS := Lib.hid hfs
                        have hini : (q : Int) + 1 + j < n := by omega
                        clear hc hy3 hge hmem hfs hff hlen
                        go_wp2
                        go_round
                        case rel => exact ⟨j + 1, by omega, by go_num, by rw [HFS.out]⟩
                        case measure => simp [intOf] <;> omega
                      · have hlen : ¬ j < (zs.drop (q + 1)).length := by rw [List.length_drop, HLEN.out]; omega
                        rw [if_neg hlen] at hfs
                        have HFS := Lib.hid hfs
                        have hini : ¬ (q : Int) + 1 + j < n := by omega
                        clear hfs hff hlen
                        go_wp2
                        go_round
                        case rel => exact ⟨j + 1, by omega, by go_num, by rw [HFS.out, Int.add_zero]⟩
                        case measure => simp [intOf] <;> omega
                    · obtain rfl : j = 5 := by omega
                      have hfb := fracK_bd5 _ HDG.out 5 (by omega)
                      obtain ⟨ff, hff⟩ : ∃ ff, fracK (zs.drop (q + 1)) 5 = ff := ⟨_, rfl⟩
                      rw [hff] at hfb ⊢
                      have HFF := Lib.hid hff
                      obtain ⟨f0, f1⟩ := hfb
                      clear hff hj5
                      go_wp2
                      go_ret3
                      exact ⟨by rw [HS.out, HFF.out, HNG.out]; rfl, rfl⟩
              · have hp2 : (y == 46) = false := beq_eq_false_iff_ne.2 hp
                have hd : 48 ≤ y ∧ y ≤ 57 := by rcases hyo with h | h; exact absurd h hp; exact h
                obtain ⟨d0, d1⟩ := hd
                clear after hyo
                by_cases hbig : 2147483647 < 10 * v + (y - 48)
                · have HS : Hid (parseS zs = (0, false, 5)) := Lib.hid (by rw [HREST.out, HWH.out, HDR.out, wholeZ, if_neg hp, if_pos hbig])
                  clear hp
                  go_wp2
                  go_ret3
                  exact ⟨by rw [HS.out]; rfl, rfl⟩
                · have HS : Hid (wholeZ (zs.drop AT) 0 = wholeZ (zs.drop (q + 1)) (10 * v + (y - 48))) := Lib.hid (by rw [HWH.out, HDR.out, wholeZ, if_neg hp, if_neg hbig])
                  have HS2 : Hid (scanP (zs.drop AT) 0 0 = scanP (zs.drop (q + 1)) 0 (D' + 1)) := Lib.hid (by rw [hsc2.out, HDR.out, scanP, if_neg hp, if_pos ⟨d0, d1⟩])
                  have hb1 : 10 * v + (y - 48) ≤ 2147483647 := by omega
                  have hb0 : 0 ≤ 10 * v + (y - 48) := by omega
                  clear hp hbig
                  go_wp2
                  go_round
                  case rel => exact ⟨q + 1, D' + 1, 10 * v + (y - 48), by omega, by omega, by go_num, rfl, hb0, hb1, HS, HS2⟩
                  case measure => simp [intOf] <;> omega
            · have hqn : q = n := by omega
              obtain ⟨HFIN, HDIG⟩ := after v rfl (.inl hqn)
              clear after
              by_cases hP0 : P = 0
              · have hpi : ((P : Int) == 0) = true := by simp; omega
                have HS : Hid (parseS zs = (sgZ NEG v, true, 0)) := Lib.hid (by rw [HFIN.out, if_pos hP0])
                go_wp2
                go_ret3
                exact ⟨by rw [HS.out, HNG.out]; rfl, rfl⟩
              · have hpi : ((P : Int) == 0) = false := beq_eq_false_iff_ne.2 (by omega)
                have HS : Hid (parseS zs = (sgZ NEG (v * 100000 + fracK (zs.drop (q + 1)) 5), false, 0)) := Lib.hid (by rw [HFIN.out, if_neg hP0])
                have HDG := Lib.hid (HDIG.out hP0)
                go_wp2
                go_loop [12, 13] (fun ff kk => ∃ j : Nat, j ≤ 5 ∧ kk = .int .i64 j ∧ ff = .int .i64 (fracK (zs.drop (q + 1)) j)) (fun _ kk => 5 - (intOf kk).toNat)
                case atStart => exact ⟨0, by omega, rfl, rfl⟩
                case round =>
                  obtain ⟨j, hj, rfl, rfl⟩ := hrel
                  by_cases hj5 : j < 5
                  · have hfb := fracK_bd4 _ HDG.out j (by omega)
                    have hfs : fracK (zs.drop (q + 1)) (j + 1) = 10 * fracK (zs.drop (q + 1)) j + (if j < (zs.drop (q + 1)).length then (zs.drop (q + 1)).getD j 0 - 48 else 0) := rfl
                    obtain ⟨ff, hff⟩ : ∃ ff, fracK (zs.drop (q + 1)) j = ff := ⟨_, rfl⟩
                    rw [hff] at hfb hfs ⊢
                    obtain ⟨f0, f1⟩ := hfb
                    by_cases hin : q + 1 + j < n
                    · exact absurd hin (by omega)
                    · have hlen : ¬ j < (zs.drop (q + 1)).length := by rw [List.length_drop, HLEN.out]; omega
                      rw [if_neg hlen] at hfs
                      have HFS := Lib.hid hfs
                      have hini : ¬ (q : Int) + 1 + j < n := by omega
                      clear hfs hff hlen
                      go_wp2
                      go_round
                      case rel => exact ⟨j + 1, by omega, by go_num, by rw [HFS.out, Int.add_zero]⟩
                      case measure => simp [intOf] <;> omega
                  · obtain rfl : j = 5 := by omega
                    have hfb := fracK_bd5 _ HDG.out 5 (by omega)
                    obtain ⟨ff, hff⟩ : ∃ ff, fracK (zs.drop (q + 1)) 5 = ff := ⟨_, rfl⟩
                    rw [hff] at hfb ⊢
                    have HFF := Lib.hid hff
                    obtain ⟨f0, f1⟩ := hfb
                    clear hff hj5
                    go_wp2
                    go_ret3
                    exact ⟨by rw [HS.out, HFF.out, HNG.out]; rfl, rfl⟩
  · have HAT := Lib.hid ha
    have HNG := Lib.hid hg
    obtain ⟨b, o, rfl, _, hc0⟩ := HB.out.cell h0
    have ck : w.cell? ⟨b, o, none⟩ = some (.int .u8 45) := by
      have h := hc0 0 h0
      rw [hz, h45, Nat.add_zero] at h
      exact h
    clear ha hg hc0 hz h45
    go_enter Try.func70, Try.ntmps70
    go_wp2
    go_loop [7, 8, 9] (fun pts dg i => ∃ k P D : Nat, AT ≤ k ∧ k ≤ n ∧ i = .int .i64 k ∧ pts = .int .i64 P ∧ dg = .int .i64 D ∧ P ≤ k ∧ D ≤ k ∧ Hid (scanP (zs.drop AT) 0 0 = scanP (zs.drop k) P D)) (fun _ _ i => n - (intOf i).toNat)
    case atStart => exact ⟨AT, 0, 0, Nat.le_refl _, hat, by rw [HAT.out]; rfl, rfl, rfl, Nat.zero_le _, Nat.zero_le _, rfl⟩
    case round =>
      obtain ⟨k, P, D, hk1, hk, rfl, rfl, rfl, hP, hD, hsc⟩ := hrel
      by_cases hlt : k < n
      · obtain ⟨b', o', hA', _, hc⟩ := HB.out.cell (by omega)
        obtain ⟨rfl, rfl⟩ : b = b' ∧ o = o' := by injection hA' with hA'; injection hA' with h1 h2; exact ⟨h1, h2⟩
        have ck2 := hc k hlt
        have hdr := drop_getD zs k (by rw [HLEN.out]; exact hlt)
        have hgz := HB.out.getD k
        obtain ⟨y, hy⟩ : ∃ y, zs.getD k 0 = y := ⟨_, rfl⟩
        rw [hy] at ck2 hdr hgz
        have HDR := Lib.hid hdr
        obtain ⟨y0, y1⟩ := hgz
        clear hc hy hdr
        by_cases hp : y = 46
        · subst hp
          have HS : Hid (scanP (zs.drop AT) 0 0 = scanP (zs.drop (k + 1)) (P + 1) D) := Lib.hid (by rw [hsc.out, HDR.out, scanP, if_pos rfl])
          clear y0 y1
          go_wp2
          go_round
          case rel => exact ⟨k + 1, P + 1, D, by omega, by omega, by go_num, by go_num, rfl, by omega, by omega, HS⟩
          case measure => simp [intOf] <;> omega
        · have hp2 : (y == 46) = false := beq_eq_false_iff_ne.2 hp
          by_cases hd : 48 ≤ y ∧ y ≤ 57
          · have HS : Hid (scanP (zs.drop AT) 0 0 = scanP (zs.drop (k + 1)) P (D + 1)) := Lib.hid (by rw [hsc.out, HDR.out, scanP, if_neg hp, if_pos hd])
            obtain ⟨d0, d1⟩ := hd
            clear hp
            go_wp2
            go_round
            case rel => exact ⟨k + 1, P, D + 1, by omega, by omega, by go_num, rfl, by go_num, by omega, by omega, HS⟩
            case measure => simp [intOf] <;> omega
          · have HS : Hid (parseS zs = (0, false, 4)) := Lib.hid (by
              rw [HPS.out, restS, hsc.out, HDR.out, scanP, if_neg hp, if_neg hd])
            have hd2 : (decide (48 ≤ y) = false) ∨ (decide (48 ≤ y) = true ∧ decide (y ≤ 57) = false) := by
              by_cases h : 48 ≤ y
              · exact .inr ⟨decide_eq_true h, decide_eq_false (by omega)⟩
              · exact .inl (decide_eq_false h)
            clear hp hd
            rcases hd2 with hd2 | ⟨hd2, hd3⟩
            all_goals
              go_wp2
              go_ret3
              exact ⟨by rw [HS.out]; rfl, rfl⟩
      · have HSC : Hid (scanP (zs.drop AT) 0 0 = some (P, D)) := Lib.hid (by rw [hsc.out, List.drop_of_length_le (by rw [HLEN.out]; omega)]; rfl)
        clear hsc
        by_cases hbad : 1 < P ∨ D = 0
        · have HS : Hid (parseS zs = (0, false, 4)) := Lib.hid (by
            rw [HPS.out, restS, HSC.out]
            simp only [if_pos hbad])
          have hb2 : (decide ((1 : Int) < P) = true) ∨ (decide ((1 : Int) < P) = false ∧ ((D : Int) == 0) = true) := by
            by_cases h : 1 < P
            · exact .inl (decide_eq_true (by omega))
            · exact .inr ⟨decide_eq_false (by omega), by simp; omega⟩
          clear hbad
          rcases hb2 with hb2 | ⟨hb2, hb3⟩
          all_goals
            go_wp2
            go_ret3
            exact ⟨by rw [HS.out]; rfl, rfl⟩
        · have hP1 : P ≤ 1 := by omega
          have hD1 : ((D : Int) == 0) = false := beq_eq_false_iff_ne.2 (by omega)
          have hP1i : ¬ (1 : Int) < P := by omega
          have HOKZ : Hid (∀ z ∈ zs.drop AT, z = 46 ∨ (48 ≤ z ∧ z ≤ 57)) := Lib.hid (scanP_ok _ _ _ _ HSC.out)
          have HREST : Hid (parseS zs = match wholeZ (zs.drop AT) 0 with | none => (0, false, 5) | some (v, r) => if P = 0 then (sgZ NEG v, true, 0) else (sgZ NEG (v * 100000 + fracK (r.drop 1) 5), false, 0)) := Lib.hid (by
            rw [HPS.out, restS, HSC.out]
            simp only [if_neg hbad])
          clear hbad
          go_wp2
          go_loop [10, 11] (fun a i => ∃ (k D' : Nat) (v : Int), AT ≤ k ∧ k ≤ n ∧ i = .int .i64 k ∧ a = .int .i64 v ∧ 0 ≤ v ∧ v ≤ 2147483647 ∧ Hid (wholeZ (zs.drop AT) 0 = wholeZ (zs.drop k) v) ∧ Hid (scanP (zs.drop AT) 0 0 = scanP (zs.drop k) 0 D')) (fun _ i => n - (intOf i).toNat)
          case atStart => exact ⟨AT, 0, 0, Nat.le_refl _, hat, by rw [HAT.out]; rfl, rfl, by omega, by omega, rfl, rfl⟩
          case round =>
            obtain ⟨q, D', v, hq1, hq, rfl, rfl, v0, v1, hwh, hsc2⟩ := hrel
            have HWH := Lib.hid hwh.out
            have after : ∀ (V : Int), V = v → (q = n ∨ zs.drop q = 46 :: zs.drop (q + 1)) → Hid (parseS zs = if P = 0 then (sgZ NEG v, true, 0) else (sgZ NEG (v * 100000 + fracK (zs.drop (q + 1)) 5), false, 0)) ∧ Hid (P ≠ 0 → ∀ y ∈ zs.drop (q + 1), 48 ≤ y ∧ y ≤ 57) := by
              intro V _ hr
              rcases hr with hr | hr
              · have e1 : zs.drop q = [] := List.drop_of_length_le (by rw [HLEN.out]; omega)
                have e2 : zs.drop (q + 1) = [] := List.drop_of_length_le (by rw [HLEN.out]; omega)
                refine ⟨Lib.hid ?_, Lib.hid (fun _ y hy => by rw [e2] at hy; cases hy)⟩
                rw [HREST.out, hwh.out, e1, e2]
                rfl
              · have hs1 := hsc2.out.symm.trans HSC.out
                rw [hr, scanP, if_pos rfl] at hs1
                have hm := scanP_mono _ _ _ _ hs1
                refine ⟨Lib.hid ?_, Lib.hid (fun h0 y hy => ?_)⟩
                · rw [HREST.out, hwh.out, hr, wholeZ, if_pos rfl]
                  rfl
                · have h1 := hm.2 (by have := hm.1; simp at this ⊢; omega) y hy
                  have h2 := HOKZ.out y (by
                    have : zs.drop (q + 1) = (zs.drop AT).drop (q + 1 - AT) := by rw [List.drop_drop]; congr 1; omega
                    rw [this] at hy
                    exact List.mem_of_mem_drop hy)
                  rcases h2 with h2 | h2
                  · exact absurd h2 h1
                  · exact h2
            by_cases hlt2 : q < n
            · obtain ⟨b', o', hA', _, hc⟩ := HB.out.cell (by omega)
              obtain ⟨rfl, rfl⟩ : b = b' ∧ o = o' := by injection hA' with hA'; injection hA' with h1 h2; exact ⟨h1, h2⟩
              have ck2 := hc q hlt2
              have hdr := drop_getD zs q (by rw [HLEN.out]; exact hlt2)
              have hgz := HB.out.getD q
              obtain ⟨y, hy⟩ : ∃ y, zs.getD q 0 = y := ⟨_, rfl⟩
              rw [hy] at ck2 hdr hgz
              have HDR := Lib.hid hdr
              obtain ⟨y0, y1⟩ := hgz
              have hyo := HOKZ.out y (by
                have : zs.drop q = (zs.drop AT).drop (q - AT) := by rw [List.drop_drop]; congr 1; omega
                have h2 : y ∈ zs.drop q := by rw [hdr]; exact List.mem_cons_self
                rw [this] at h2
                exact List.mem_of_mem_drop h2)
              clear hc hy hdr
              by_cases hp : y = 46
              · subst hp
                obtain ⟨HFIN, HDIG⟩ := after v rfl (.inr HDR.out)
                clear y0 y1 after hyo
                by_cases hP0 : P = 0
                · have hpi : ((P : Int) == 0) = true := by simp; omega
                  have HS : Hid (parseS zs = (sgZ NEG v, true, 0)) := Lib.hid (by rw [HFIN.out, if_pos hP0])
                  go_wp2
                  go_ret3
                  exact ⟨by rw [HS.out, HNG.out]; rfl, rfl⟩
                · have hpi : ((P : Int) == 0) = false := beq_eq_false_iff_ne.2 (by omega)
                  have HS : Hid (parseS zs = (sgZ NEG (v * 100000 + fracK (zs.drop (q + 1)) 5), false, 0)) := Lib.hid (by rw [HFIN.out, if_neg hP0])
                  have HDG := Lib.hid (HDIG.out hP0)
                  go_wp2
                  go_loop [12, 13] (fun ff kk => ∃ j : Nat, j ≤ 5 ∧ kk = .int .i64 j ∧ ff = .int .i64 (fracK (zs.drop (q + 1)) j)) (fun _ kk => 5 - (intOf kk).toNat)
                  case atStart => exact ⟨0, by omega, rfl, rfl⟩
                  case round =>
                    obtain ⟨j, hj, rfl, rfl⟩ := hrel
                    by_cases hj5 : j < 5
                    · have hfb := fracK_bd4 _ HDG.out j (by omega)
                      have hfs : fracK (zs.drop (q + 1)) (j + 1) = 10 * fracK (zs.drop (q + 1)) j + (if j < (zs.drop (q + 1)).length then (zs.drop (q + 1)).getD j 0 - 48 else 0) := rfl
                      obtain ⟨ff, hff⟩ : ∃ ff, fracK (zs.drop (q + 1)) j = ff := ⟨_, rfl⟩
                      rw [hff] at hfb hfs ⊢
                      obtain ⟨f0, f1⟩ := hfb
                      by_cases hin : q + 1 + j < n
                      · obtain ⟨b', o', hA', _, hc⟩ := HB.out.cell (by omega)
                        obtain ⟨rfl, rfl⟩ : b = b' ∧ o = o' := by injection hA' with hA'; injection hA' with h1 h2; exact ⟨h1, h2⟩
                        have ck3 := hc (q + 1 + j) hin
                        have hlen : j < (zs.drop (q + 1)).length := by rw [List.length_drop, HLEN.out]; omega
                        have hge : (zs.drop (q + 1)).getD j 0 = zs.getD (q + 1 + j) 0 := getD_drop zs (q + 1) j
                        have hmem : zs.getD (q + 1 + j) 0 ∈ zs.drop (q + 1) := by
                          rw [← hge]
                          have : (zs.drop (q + 1)).getD j 0 = (zs.drop (q + 1))[j] := by rw [List.getD_eq_getElem?_getD, List.getElem?_eq_getElem hlen]; rfl
                          rw [this]; exact List.getElem_mem hlen
                        have hdg := HDG.out _ hmem
                        rw [if_pos hlen, hge] at hfs
                        obtain ⟨y3, hy3⟩ : ∃ y3, zs.getD (q + 1 + j) 0 = y3 := ⟨_, rfl⟩
                        rw [hy3] at ck3 hdg hfs
                        obtain ⟨g0, g1⟩ := hdg
                        have HFS := Lib.hid hfs
                        have hini : (q : Int) + 1 + j < n := by omega
                        clear hc hy3 hge hmem hfs hff hlen
                        go_wp2
                        go_round
                        case rel => exact ⟨j + 1, by omega, by go_num, by rw [HFS.out]⟩
                        case measure => simp [intOf] <;> omega
                      · have hlen : ¬ j < (zs.drop (q + 1)).length := by rw [List.length_drop, HLEN.out]; omega
                        rw [if_neg hlen] at hfs
                        have HFS := Lib.hid hfs
                        have hini : ¬ (q : Int) + 1 + j < n := by omega
                        clear hfs hff hlen
                        go_wp2
                        go_round
                        case rel => exact ⟨j + 1, by omega, by go_num, by rw [HFS.out, Int.add_zero]⟩
                        case measure => simp [intOf] <;> omega
                    · obtain rfl : j = 5 := by omega
                      have hfb := fracK_bd5 _ HDG.out 5 (by omega)
                      obtain ⟨ff, hff⟩ : ∃ ff, fracK (zs.drop (q + 1)) 5 = ff := ⟨_, rfl⟩
                      rw [hff] at hfb ⊢
                      have HFF := Lib.hid hff
                      obtain ⟨f0, f1⟩ := hfb
                      clear hff hj5
                      go_wp2
                      go_ret3
                      exact ⟨by rw [HS.out, HFF.out, HNG.out]; rfl, rfl⟩
              · have hp2 : (y == 46) = false := beq_eq_false_iff_ne.2 hp
                have hd : 48 ≤ y ∧ y ≤ 57 := by rcases hyo with h | h; exact absurd h hp; exact h
                obtain ⟨d0, d1⟩ := hd
                clear after hyo
                by_cases hbig : 2147483647 < 10 * v + (y - 48)
                · have HS : Hid (parseS zs = (0, false, 5)) := Lib.hid (by rw [HREST.out, HWH.out, HDR.out, wholeZ, if_neg hp, if_pos hbig])
                  clear hp
                  go_wp2
                  go_ret3
                  exact ⟨by rw [HS.out]; rfl, rfl⟩
                · have HS : Hid (wholeZ (zs.drop AT) 0 = wholeZ (zs.drop (q + 1)) (10 * v + (y - 48))) := Lib.hid (by rw [HWH.out, HDR.out, wholeZ, if_neg hp, if_neg hbig])
                  have HS2 : Hid (scanP (zs.drop AT) 0 0 = scanP (zs.drop (q + 1)) 0 (D' + 1)) := Lib.hid (by rw [hsc2.out, HDR.out, scanP, if_neg hp, if_pos ⟨d0, d1⟩])
                  have hb1 : 10 * v + (y - 48) ≤ 2147483647 := by omega
                  have hb0 : 0 ≤ 10 * v + (y - 48) := by omega
                  clear hp hbig
                  go_wp2
                  go_round
                  case rel => exact ⟨q + 1, D' + 1, 10 * v + (y - 48), by omega, by omega, by go_num, rfl, hb0, hb1, HS, HS2⟩
                  case measure => simp [intOf] <;> omega
            · have hqn : q = n := by omega
              obtain ⟨HFIN, HDIG⟩ := after v rfl (.inl hqn)
              clear after
              by_cases hP0 : P = 0
              · have hpi : ((P : Int) == 0) = true := by simp; omega
                have HS : Hid (parseS zs = (sgZ NEG v, true, 0)) := Lib.hid (by rw [HFIN.out, if_pos hP0])
                go_wp2
                go_ret3
                exact ⟨by rw [HS.out, HNG.out]; rfl, rfl⟩
              · have hpi : ((P : Int) == 0) = false := beq_eq_false_iff_ne.2 (by omega)
                have HS : Hid (parseS zs = (sgZ NEG (v * 100000 + fracK (zs.drop (q + 1)) 5), false, 0)) := Lib.hid (by rw [HFIN.out, if_neg hP0])
                have HDG := Lib.hid (HDIG.out hP0)
                go_wp2
                go_loop [12, 13] (fun ff kk => ∃ j : Nat, j ≤ 5 ∧ kk = .int .i64 j ∧ ff = .int .i64 (fracK (zs.drop (q + 1)) j)) (fun _ kk => 5 - (intOf kk).toNat)
                case atStart => exact ⟨0, by omega, rfl, rfl⟩
                case round =>
                  obtain ⟨j, hj, rfl, rfl⟩ := hrel
                  by_cases hj5 : j < 5
                  · have hfb := fracK_bd4 _ HDG.out j (by omega)
                    have hfs : fracK (zs.drop (q + 1)) (j + 1) = 10 * fracK (zs.drop (q + 1)) j + (if j < (zs.drop (q + 1)).length then (zs.drop (q + 1)).getD j 0 - 48 else 0) := rfl
                    obtain ⟨ff, hff⟩ : ∃ ff, fracK (zs.drop (q + 1)) j = ff := ⟨_, rfl⟩
                    rw [hff] at hfb hfs ⊢
                    obtain ⟨f0, f1⟩ := hfb
                    by_cases hin : q + 1 + j < n
                    · exact absurd hin (by omega)
                    · have hlen : ¬ j < (zs.drop (q + 1)).length := by rw [List.length_drop, HLEN.out]; omega
                      rw [if_neg hlen] at hfs
                      have HFS := Lib.hid hfs
                      have hini : ¬ (q : Int) + 1 + j < n := by omega
                      clear hfs hff hlen
                      go_wp2
                      go_round
                      case rel => exact ⟨j + 1, by omega, by go_num, by rw [HFS.out, Int.add_zero]⟩
                      case measure => simp [intOf] <;> omega
                  · obtain rfl : j = 5 := by omega
                    have hfb := fracK_bd5 _ HDG.out 5 (by omega)
                    obtain ⟨ff, hff⟩ : ∃ ff, fracK (zs.drop (q + 1)) 5 = ff := ⟨_, rfl⟩
                    rw [hff] at hfb ⊢
                    have HFF := Lib.hid hff
                    obtain ⟨f0, f1⟩ := hfb
                    clear hff hj5
                    go_wp2
                    go_ret3
                    exact ⟨by rw [HS.out, HFF.out, HNG.out]; rfl, rfl⟩
  · have HAT := Lib.hid ha
    have HNG := Lib.hid hg
    obtain ⟨b, o, rfl, _, hc0⟩ := HB.out.cell h0
    have ck : w.cell? ⟨b, o, none⟩ = some (.int .u8 z) := by
      have h := hc0 0 h0
      rw [hz, Nat.add_zero] at h
      exact h
    clear ha hg hc0 hz
    go_enter Try.func70, Try.ntmps70
    go_wp2
    go_loop [7, 8, 9] (fun pts dg i => ∃ k P D : Nat, AT ≤ k ∧ k ≤ n ∧ i = .int .i64 k ∧ pts = .int .i64 P ∧ dg = .int .i64 D ∧ P ≤ k ∧ D ≤ k ∧ Hid (scanP (zs.drop AT) 0 0 = scanP (zs.drop k) P D)) (fun _ _ i => n - (intOf i).toNat)
    case atStart => exact ⟨AT, 0, 0, Nat.le_refl _, hat, by rw [HAT.out]; rfl, rfl, rfl, Nat.zero_le _, Nat.zero_le _, rfl⟩
    case round =>
      obtain ⟨k, P, D, hk1, hk, rfl, rfl, rfl, hP, hD, hsc⟩ := hrel
      by_cases hlt : k < n
      · obtain ⟨b', o', hA', _, hc⟩ := HB.out.cell (by omega)
        obtain ⟨rfl, rfl⟩ : b = b' ∧ o = o' := by injection hA' with hA'; injection hA' with h1 h2; exact ⟨h1, h2⟩
        have ck2 := hc k hlt
        have hdr := drop_getD zs k (by rw [HLEN.out]; exact hlt)
        have hgz := HB.out.getD k
        obtain ⟨y, hy⟩ : ∃ y, zs.getD k 0 = y := ⟨_, rfl⟩
        rw [hy] at ck2 hdr hgz
        have HDR := Lib.hid hdr
        obtain ⟨y0, y1⟩ := hgz
        clear hc hy hdr
        by_cases hp : y = 46
        · subst hp
          have HS : Hid (scanP (zs.drop AT) 0 0 = scanP (zs.drop (k + 1)) (P + 1) D) := Lib.hid (by rw [hsc.out, HDR.out, scanP, if_pos rfl])
          clear y0 y1
          go_wp2
          go_round
          case rel => exact ⟨k + 1, P + 1, D, by omega, by omega, by go_num, by go_num, rfl, by omega, by omega, HS⟩
          case measure => simp [intOf] <;> omega
        · have hp2 : (y == 46) = false := beq_eq_false_iff_ne.2 hp
          by_cases hd : 48 ≤ y ∧ y ≤ 57
          · have HS : Hid (scanP (zs.drop AT) 0 0 = scanP (zs.drop (k + 1)) P (D + 1)) := Lib.hid (by rw [hsc.out, HDR.out, scanP, if_neg hp, if_pos hd])
            obtain ⟨d0, d1⟩ := hd
            clear hp
            go_wp2
            go_round
            case rel => exact ⟨k + 1, P, D + 1, by omega, by omega, by go_num, rfl, by go_num, by omega, by omega, HS⟩
            case measure => simp [intOf] <;> omega
          · have HS : Hid (parseS zs = (0, false, 4)) := Lib.hid (by
              rw [HPS.out, restS, hsc.out, HDR.out, scanP, if_neg hp, if_neg hd])
            have hd2 : (decide (48 ≤ y) = false) ∨ (decide (48 ≤ y) = true ∧ decide (y ≤ 57) = false) := by
              by_cases h : 48 ≤ y
              · exact .inr ⟨decide_eq_true h, decide_eq_false (by omega)⟩
              · exact .inl (decide_eq_false h)
            clear hp hd
            rcases hd2 with hd2 | ⟨hd2, hd3⟩
            all_goals
              go_wp2
              go_ret3
              exact ⟨by rw [HS.out]; rfl, rfl⟩
      · have HSC : Hid (scanP (zs.drop AT) 0 0 = some (P, D)) := Lib.hid (by rw [hsc.out, List.drop_of_length_le (by rw [HLEN.out]; omega)]; rfl)
        clear hsc
        by_cases hbad : 1 < P ∨ D = 0
        · have HS : Hid (parseS zs = (0, false, 4)) := Lib.hid (by
            rw [HPS.out, restS, HSC.out]
            simp only [if_pos hbad])
          have hb2 : (decide ((1 : Int) < P) = true) ∨ (decide ((1 : Int) < P) = false ∧ ((D : Int) == 0) = true) := by
            by_cases h : 1 < P
            · exact .inl (decide_eq_true (by omega))
            · exact .inr ⟨decide_eq_false (by omega), by simp; omega⟩
          clear hbad
          rcases hb2 with hb2 | ⟨hb2, hb3⟩
          all_goals
            go_wp2
            go_ret3
            exact ⟨by rw [HS.out]; rfl, rfl⟩
        · have hP1 : P ≤ 1 := by omega
          have hD1 : ((D : Int) == 0) = false := beq_eq_false_iff_ne.2 (by omega)
          have hP1i : ¬ (1 : Int) < P := by omega
          have HOKZ : Hid (∀ z ∈ zs.drop AT, z = 46 ∨ (48 ≤ z ∧ z ≤ 57)) := Lib.hid (scanP_ok _ _ _ _ HSC.out)
          have HREST : Hid (parseS zs = match wholeZ (zs.drop AT) 0 with | none => (0, false, 5) | some (v, r) => if P = 0 then (sgZ NEG v, true, 0) else (sgZ NEG (v * 100000 + fracK (r.drop 1) 5), false, 0)) := Lib.hid (by
            rw [HPS.out, restS, HSC.out]
            simp only [if_neg hbad])
          clear hbad
          go_wp2
          go_loop [10, 11] (fun a i => ∃ (k D' : Nat) (v : Int), AT ≤ k ∧ k ≤ n ∧ i = .int .i64 k ∧ a = .int .i64 v ∧ 0 ≤ v ∧ v ≤ 2147483647 ∧ Hid (wholeZ (zs.drop AT) 0 = wholeZ (zs.drop k) v) ∧ Hid (scanP (zs.drop AT) 0 0 = scanP (zs.drop k) 0 D')) (fun _ i => n - (intOf i).toNat)
          case atStart => exact ⟨AT, 0, 0, Nat.le_refl _, hat, by rw [HAT.out]; rfl, rfl, by omega, by omega, rfl, rfl⟩
          case round =>
            obtain ⟨q, D', v, hq1, hq, rfl, rfl, v0, v1, hwh, hsc2⟩ := hrel
            have HWH := Lib.hid hwh.out
            have after : ∀ (V : Int), V = v → (q = n ∨ zs.drop q = 46 :: zs.drop (q + 1)) → Hid (parseS zs = if P = 0 then (sgZ NEG v, true, 0) else (sgZ NEG (v * 100000 + fracK (zs.drop (q + 1)) 5), false, 0)) ∧ Hid (P ≠ 0 → ∀ y ∈ zs.drop (q + 1), 48 ≤ y ∧ y ≤ 57) := by
              intro V _ hr
              rcases hr with hr | hr
              · have e1 : zs.drop q = [] := List.drop_of_length_le (by rw [HLEN.out]; omega)
                have e2 : zs.drop (q + 1) = [] := List.drop_of_length_le (by rw [HLEN.out]; omega)
                refine ⟨Lib.hid ?_, Lib.hid (fun _ y hy => by rw [e2] at hy; cases hy)⟩
                rw [HREST.out, hwh.out, e1, e2]
                rfl
              · have hs1 := hsc2.out.symm.trans HSC.out
                rw [hr, scanP, if_pos rfl] at hs1
                have hm := scanP_mono _ _ _ _ hs1
                refine ⟨Lib.hid ?_, Lib.hid (fun h0 y hy => ?_)⟩
                · rw [HREST.out, hwh.out, hr, wholeZ, if_pos rfl]
                  rfl
                · have h1 := hm.2 (by have := hm.1; simp at this ⊢; omega) y hy
                  have h2 := HOKZ.out y (by
                    have : zs.drop (q + 1) = (zs.drop AT).drop (q + 1 - AT) := by rw [List.drop_drop]; congr 1; omega
                    rw [this] at hy
                    exact List.mem_of_mem_drop hy)
                  rcases h2 with h2 | h2
                  · exact absurd h2 h1
                  · exact h2
            by_cases hlt2 : q < n
            · obtain ⟨b', o', hA', _, hc⟩ := HB.out.cell (by omega)
              obtain ⟨rfl, rfl⟩ : b = b' ∧ o = o' := by injection hA' with hA'; injection hA' with h1 h2; exact ⟨h1, h2⟩
              have ck2 := hc q hlt2
              have hdr := drop_getD zs q (by rw [HLEN.out]; exact hlt2)
              have hgz := HB.out.getD q
              obtain ⟨y, hy⟩ : ∃ y, zs.getD q 0 = y := ⟨_, rfl⟩
              rw [hy] at ck2 hdr hgz
              have HDR := Lib.hid hdr
              obtain ⟨y0, y1⟩ := hgz
              have hyo := HOKZ.out y (by
                have : zs.drop q = (zs.drop AT).drop (q - AT) := by rw [List.drop_drop]; congr 1; omega
                have h2 : y ∈ zs.drop q := by rw [hdr]; exact List.mem_cons_self
                rw [this] at h2
                exact List.mem_of_mem_drop h2)
              clear hc hy hdr
              by_cases hp : y = 46
              · subst hp
                obtain ⟨HFIN, HDIG⟩ := after v rfl (.inr HDR.out)
                clear y0 y1 after hyo
                by_cases hP0 : P = 0
                · have hpi : ((P : Int) == 0) = true := by simp; omega
                  have HS : Hid (parseS zs = (sgZ NEG v, true, 0)) := Lib.hid (by rw [HFIN.out, if_pos hP0])
                  go_wp2
                  go_ret3
                  exact ⟨by rw [HS.out, HNG.out]; rfl, rfl⟩
                · have hpi : ((P : Int) == 0) = false := beq_eq_false_iff_ne.2 (by omega)
                  have HS : Hid (parseS zs = (sgZ NEG (v * 100000 + fracK (zs.drop (q + 1)) 5), false, 0)) := Lib.hid (by rw [HFIN.out, if_neg hP0])
                  have HDG := Lib.hid (HDIG.out hP0)
                  go_wp2
                  go_loop [12, 13] (fun ff kk => ∃ j : Nat, j ≤ 5 ∧ kk = .int .i64 j ∧ ff = .int .i64 (fracK (zs.drop (q + 1)) j)) (fun _ kk => 5 - (intOf kk).toNat)
                  case atStart => exact ⟨0, by omega, rfl, rfl⟩
                  case round =>
                    obtain ⟨j, hj, rfl, rfl⟩ := hrel
                    by_cases hj5 : j < 5
                    · have hfb := fracK_bd4 _ HDG.out j (by omega)
                      have hfs : fracK (zs.drop (q + 1)) (j + 1) = 10 * fracK (zs.drop (q + 1)) j + (if j < (zs.drop (q + 1)).length then (zs.drop (q + 1)).getD j 0 - 48 else 0) := rfl
                      obtain ⟨ff, hff⟩ : ∃ ff, fracK (zs.drop (q + 1)) j = ff := ⟨_, rfl⟩
                      rw [hff] at hfb hfs ⊢
                      obtain ⟨f0, f1⟩ := hfb
                      by_cases hin : q + 1 + j < n
                      · obtain ⟨b', o', hA', _, hc⟩ := HB.out.cell (by omega)
                        obtain ⟨rfl, rfl⟩ : b = b' ∧ o = o' := by injection hA' with hA'; injection hA' with h1 h2; exact ⟨h1, h2⟩
                        have ck3 := hc (q + 1 + j) hin
                        have hlen : j < (zs.drop (q + 1)).length := by rw [List.length_drop, HLEN.out]; omega
                        have hge : (zs.drop (q + 1)).getD j 0 = zs.getD (q + 1 + j) 0 := getD_drop zs (q + 1) j
                        have hmem : zs.getD (q + 1 + j) 0 ∈ zs.drop (q + 1) := by
                          rw [← hge]
                          have : (zs.drop (q + 1)).getD j 0 = (zs.drop (q + 1))[j] := by rw [List.getD_eq_getElem?_getD, List.getElem?_eq_getElem hlen]; rfl
                          rw [this]; exact List.getElem_mem hlen
                        have hdg := HDG.out _ hmem
                        rw [if_pos hlen, hge] at hfs
                        obtain ⟨y3, hy3⟩ : ∃ y3, zs.getD (q + 1 + j) 0 = y3 := ⟨_, rfl⟩
                        rw [hy3] at ck3 hdg hfs
                        obtain ⟨g0, g1⟩ := hdg
                        have HFS := Lib.hid hfs
                        have hini : (q : Int) + 1 + j < n := by omega
                        clear hc hy3 hge hmem hfs hff hlen
                        go_wp2
                        go_round
                        case rel => exact ⟨j + 1, by omega, by go_num, by rw [HFS.out]⟩
                        case measure => simp [intOf] <;> omega
                      · have hlen : ¬ j < (zs.drop (q + 1)).length := by rw [List.length_drop, HLEN.out]; omega
                        rw [if_neg hlen] at hfs
                        have HFS := Lib.hid hfs
                        have hini : ¬ (q : Int) + 1 + j < n := by omega
                        clear hfs hff hlen
                        go_wp2
                        go_round
                        case rel => exact ⟨j + 1, by omega, by go_num, by rw [HFS.out, Int.add_zero]⟩
                        case measure => simp [intOf] <;> omega
                    · obtain rfl : j = 5 := by omega
                      have hfb := fracK_bd5 _ HDG.out 5 (by omega)
                      obtain ⟨ff, hff⟩ : ∃ ff, fracK (zs.drop (q + 1)) 5 = ff := ⟨_, rfl⟩
                      rw [hff] at hfb ⊢
                      have HFF := Lib.hid hff
                      obtain ⟨f0, f1⟩ := hfb
                      clear hff hj5
                      go_wp2
                      go_ret3
                      exact ⟨by rw [HS.out, HFF.out, HNG.out]; rfl, rfl⟩
              · have hp2 : (y == 46) = false := beq_eq_false_iff_ne.2 hp
                have hd : 48 ≤ y ∧ y ≤ 57 := by rcases hyo with h | h; exact absurd h hp; exact h
                obtain ⟨d0, d1⟩ := hd
                clear after hyo
                by_cases hbig : 2147483647 < 10 * v + (y - 48)
                · have HS : Hid (parseS zs = (0, false, 5)) := Lib.hid (by rw [HREST.out, HWH.out, HDR.out, wholeZ, if_neg hp, if_pos hbig])
                  clear hp
                  go_wp2
                  go_ret3
                  exact ⟨by rw [HS.out]; rfl, rfl⟩
                · have HS : Hid (wholeZ (zs.drop AT) 0 = wholeZ (zs.drop (q + 1)) (10 * v + (y - 48))) := Lib.hid (by rw [HWH.out, HDR.out, wholeZ, if_neg hp, if_neg hbig])
                  have HS2 : Hid (scanP (zs.drop AT) 0 0 = scanP (zs.drop (q + 1)) 0 (D' + 1)) := Lib.hid (by rw [hsc2.out, HDR.out, scanP, if_neg hp, if_pos ⟨d0, d1⟩])
                  have hb1 : 10 * v + (y - 48) ≤ 2147483647 := by omega
                  have hb0 : 0 ≤ 10 * v + (y - 48) := by omega
                  clear hp hbig
                  go_wp2
                  go_round
                  case rel => exact ⟨q + 1, D' + 1, 10 * v + (y - 48), by omega, by omega, by go_num, rfl, hb0, hb1, HS, HS2⟩
                  case measure => simp [intOf] <;> omega
            · have hqn : q = n := by omega
              obtain ⟨HFIN, HDIG⟩ := after v rfl (.inl hqn)
              clear after
              by_cases hP0 : P = 0
              · have hpi : ((P : Int) == 0) = true := by simp; omega
                have HS : Hid (parseS zs = (sgZ NEG v, true, 0)) := Lib.hid (by rw [HFIN.out, if_pos hP0])
                go_wp2
                go_ret3
                exact ⟨by rw [HS.out, HNG.out]; rfl, rfl⟩
              · have hpi : ((P : Int) == 0) = false := beq_eq_false_iff_ne.2 (by omega)
                have HS : Hid (parseS zs = (sgZ NEG (v * 100000 + fracK (zs.drop (q + 1)) 5), false, 0)) := Lib.hid (by rw [HFIN.out, if_neg hP0])
                have HDG := Lib.hid (HDIG.out hP0)
                go_wp2
                go_loop [12, 13] (fun ff kk => ∃ j : Nat, j ≤ 5 ∧ kk = .int .i64 j ∧ ff = .int .i64 (fracK (zs.drop (q + 1)) j)) (fun _ kk => 5 - (intOf kk).toNat)
                case atStart => exact ⟨0, by omega, rfl, rfl⟩
                case round =>
                  obtain ⟨j, hj, rfl, rfl⟩ := hrel
                  by_cases hj5 : j < 5
                  · have hfb := fracK_bd4 _ HDG.out j (by omega)
                    have hfs : fracK (zs.drop (q + 1)) (j + 1) = 10 * fracK (zs.drop (q + 1)) j + (if j < (zs.drop (q + 1)).length then (zs.drop (q + 1)).getD j 0 - 48 else 0) := rfl
                    obtain ⟨ff, hff⟩ : ∃ ff, fracK (zs.drop (q + 1)) j = ff := ⟨_, rfl⟩
                    rw [hff] at hfb hfs ⊢
                    obtain ⟨f0, f1⟩ := hfb
                    by_cases hin : q + 1 + j < n
                    · exact absurd hin (by omega)
                    · have hlen : ¬ j < (zs.drop (q + 1)).length := by rw [List.length_drop, HLEN.out]; omega
                      rw [if_neg hlen] at hfs
                      have HFS := Lib.hid hfs
                      have hini : ¬ (q : Int) + 1 + j < n := by omega
                      clear hfs hff hlen
                      go_wp2
                      go_round
                      case rel => exact ⟨j + 1, by omega, by go_num, by rw [HFS.out, Int.add_zero]⟩
                      case measure => simp [intOf] <;> omega
                  · obtain rfl : j = 5 := by omega
                    have hfb := fracK_bd5 _ HDG.out 5 (by omega)
                    obtain ⟨ff, hff⟩ : ∃ ff, fracK (zs.drop (q + 1)) 5 = ff := ⟨_, rfl⟩
                    rw [hff] at hfb ⊢
                    have HFF := Lib.hid hff
                    obtain ⟨f0, f1⟩ := hfb
                    clear hff hj5
                    go_wp2
                    go_ret3
                    exact ⟨by rw [HS.out, HFF.out, HNG.out]; rfl, rfl⟩
end Go.Proofs.Ytojbhckgegoldaa
