/- Contracts of functions that the law calls, and what they lean on (a part). -/
import Derived.Test.YtliieeagbpmcgaaDoorPu9
import Derived.Test.YtliieeagbpmcgaaDoorPu44
import Derived.Test.YtliieeagbpmcgaaDoorPu49
namespace Go.Proofs.YtliieeagbpmcgaaDoor
section
open Go.RowKit
set_option linter.unusedVariables false
set_option maxRecDepth 100000
theorem at_text {zs s rest : List Int} {p : Nat} (h : zs.drop p = txS s ++ rest) (hz : ∀ z ∈ s, 0 ≤ z ∧ z < 256) (hl : s.length ≤ 32767) :
    blkP zs p = p ∧ tokT zs p = ⟨0, 3, 0, s, p + (txS s).length⟩ ∧ zs.drop (p + (txS s).length) = rest := by
  have hd := drop_n h
  by_cases ha : s.all txB = true
  · have e : txS s = 40 :: (s ++ [41]) := by unfold txS; rw [if_pos ha]
    rw [e] at h hd ⊢
    have hpk := peek_on (l := s ++ [41] ++ rest) h
    have hb := tok_no hpk (by decide) (by decide)
    have hlen : s.length + 2 ≤ zs.length := by
      have := congrArg List.length h
      rw [List.length_drop] at this
      simp at this
      omega
    have hn := text_back zs rest s (zs.length + 1) (p + 1) [] (by rw [drop_one (l := s ++ [41] ++ rest) h]; simp) (fun z hm => List.all_eq_true.1 ha z hm) (by simpa using hl) (by omega)
    refine ⟨hb, tokT_of hb ?_ rfl, hd⟩
    rw [tokZ, hpk, if_neg (by decide), if_neg (by decide), if_neg (by decide), if_neg (by decide), if_neg (by decide), if_neg (fun hh => absurd hh.1 (by decide)), if_neg (fun hh => absurd hh.1 (by decide)), if_neg (by decide), if_pos rfl, hn]
    simp
    omega
  · have e : txS s = 60 :: (hxB s ++ [62]) := by unfold txS; rw [if_neg ha]
    rw [e] at h hd ⊢
    have hpk := peek_on (l := hxB s ++ [62] ++ rest) h
    have hb := tok_no hpk (by decide) (by decide)
    have h1 := drop_one (l := hxB s ++ [62] ++ rest) h
    have h60 : ¬ peekZ zs ((p + 1 : Nat) : Int) = 60 := by
      rcases s with _ | ⟨c, cs⟩
      · rw [peek_on (c := 62) (l := rest) h1]; decide
      · have hc := hz c (List.mem_cons_self ..)
        have d := hxD_ok (c / 16) (by omega) (by omega)
        rw [peek_on (c := hxD (c / 16)) (l := hxD (c % 16) :: (hxB cs ++ [62] ++ rest)) h1]
        intro e60
        rw [e60] at d
        exact absurd d.1 (by rw [show dgZ 60 = -1 by decide]; omega)
    have hu := unhx_hexS 32767 s rest hz
    rw [if_neg (by omega)] at hu
    have hrw : rowZ prB (hxB s ++ [62] ++ rest) = (hxB s).length := by
      rw [List.append_assoc, row_app prB (hxB s) ([62] ++ rest) (hxB_pr s hz)]
      rfl
    refine ⟨hb, tokT_of hb ?_ rfl, hd⟩
    rw [tokZ, hpk, if_neg (by decide), if_neg (by decide), if_neg (by decide), if_neg (by decide), if_neg (by decide), if_neg (fun hh => h60 hh.2), if_neg (fun hh => absurd hh.1 (by decide)), if_neg (by decide), if_neg (by decide), if_pos rfl]
    unfold hexZ
    rw [h1, show hxB s ++ [62] ++ rest = hexS s ++ rest from rfl, hu, show hexS s ++ rest = hxB s ++ [62] ++ rest from rfl, hrw]
    simp
    omega
mutual
/-- All bytes are bytes. -/
def rgO : Ob → Prop
  | .mk k n b l d => (∀ z ∈ b, 0 ≤ z ∧ z < 256) ∧ rgL l ∧ rgE d
def rgL : Obs → Prop
  | .nil => True
  | .cons x xs => rgO x ∧ rgL xs
def rgE : Ens → Prop
  | .nil => True
  | .cons s x xs => rgO x ∧ rgE xs
end
/-- What may stand behind a word. -/
def endR (rest : List Int) : Prop := rest = [] ∨ ∃ r rs, rest = r :: rs ∧ regB r = false
theorem endR.cons {r : Int} {rs : List Int} (h : regB r = false) : endR (r :: rs) := .inr ⟨r, rs, rfl, h⟩
/-- No R stands there, nor a 0 and an R. -/
def okR (zs : List Int) (q : Nat) : Prop := refB zs q = false ∧ kwB zs q strR = false
section
variable {zs : List Int} (hr : ∀ z ∈ zs, 0 ≤ z ∧ z < 256)
include hr
theorem okR_of {q : Nat} (h1 : (tokT zs q).k ≠ 1) (h9 : (tokT zs q).k ≠ 9 ∨ (tokT zs q).b ≠ [82]) : okR zs q := by
  refine ⟨?_, ?_⟩
  · unfold refB
    rw [decide_eq_false h1]
    simp
  · rw [(kwR_tok zs hr q).1]
    rcases h9 with h | h
    · rw [decide_eq_false h]; simp
    · rw [decide_eq_false h]; simp
theorem okR_num {q : Nat} (h1 : (tokT zs q).k = 1) (h : (tokT zs q).v ≠ 0 ∨ kwB zs (tokT zs q).q strR = false) : okR zs q := by
  refine ⟨?_, ?_⟩
  · unfold refB
    rcases h with h | h
    · rw [decide_eq_false h]; simp
    · rw [h]; simp
  · rw [(kwR_tok zs hr q).1, h1]
    simp
theorem okR_tok {q q' : Nat} (h : tokT zs q = tokT zs q') (ho : okR zs q') : okR zs q := by
  have h1 := kwR_tok zs hr q
  have h2 := kwR_tok zs hr q'
  unfold okR refB at ho ⊢
  rw [h1.1, h]
  rw [h2.1] at ho
  exact ho
omit hr in
theorem nuZ_txt (n : Int) (whole : Bool) : (nuZ n whole).length = (textB n whole).length := by unfold nuZ zsB; rw [List.length_map]
/-- The first token of an object, and what it is not. -/
theorem tk_O {x : Ob} {e : Int} {p : Nat} {rest : List Int} (hm : mayO x e = true) (hg : rgO x) (h8 : x.kind ≠ 8) (h : zs.drop p = prO x ++ rest) (he : endR rest) (ho : okR zs (p + (prO x).length)) :
    blkP zs p = p ∧ (tokT zs p).e = 0 ∧ (tokT zs p).k ≠ 0 ∧ (tokT zs p).k ≠ 6 ∧ (tokT zs p).k ≠ 8 ∧ okR zs p := by
  obtain ⟨k, n, b, l, d⟩ := x
  change k ≠ 8 at h8
  have hfn := fn_mayO _ _ hm
  have hfl := may_fields hm
  unfold rgO at hg
  unfold fnO at hfn
  rw [mayO] at hm
  rw [prO] at h ho
  by_cases hbf : badF k b.length l.len d.len = true
  · rw [if_pos hbf] at hm; cases hm
  rw [if_neg hbf] at hm
  by_cases k1 : k = 1
  · rw [if_pos k1] at h
    by_cases n1 : n = 1
    · rw [if_pos n1] at h
      have t := at_word (c := 116) (w := [114, 117, 101]) (rest := rest) h (by decide) (by decide) (by decide) he
      refine ⟨t.1, by rw [t.2.1], by rw [t.2.1]; dsimp only; decide, by rw [t.2.1]; dsimp only; decide, by rw [t.2.1]; dsimp only; decide, okR_of hr (by rw [t.2.1]; dsimp only; decide) (.inr (by rw [t.2.1]; dsimp only; decide))⟩
    · rw [if_neg n1] at h
      have t := at_word (c := 102) (w := [97, 108, 115, 101]) (rest := rest) h (by decide) (by decide) (by decide) he
      refine ⟨t.1, by rw [t.2.1], by rw [t.2.1]; dsimp only; decide, by rw [t.2.1]; dsimp only; decide, by rw [t.2.1]; dsimp only; decide, okR_of hr (by rw [t.2.1]; dsimp only; decide) (.inr (by rw [t.2.1]; dsimp only; decide))⟩
  rw [if_neg k1] at h ho hm
  by_cases k2 : k = 2
  · rw [if_pos k2] at h ho hm
    have hn := of_decide_eq_true hm
    have t := at_num (whole := true) (rest := rest) (inB_true (by omega) (by omega)) (fun _ => hn) (row_stopR regB he) h
    rw [nuZ_txt] at ho
    refine ⟨t.1, by rw [t.2.1], by rw [t.2.1]; dsimp only; decide, by rw [t.2.1]; dsimp only; decide, by rw [t.2.1]; dsimp only; decide, okR_num hr (by rw [t.2.1]; rfl) (.inr (by rw [t.2.1]; exact ho.2))⟩
  rw [if_neg k2] at h ho hm
  by_cases k3 : k = 3
  · rw [if_pos k3] at h ho hm
    have hn := of_decide_eq_true hm
    have t := at_num (whole := false) (rest := rest) (inB_true hn.1 hn.2) (fun h => by cases h) (row_stopR regB he) h
    refine ⟨t.1, by rw [t.2.1], by rw [t.2.1]; dsimp only; decide, by rw [t.2.1]; dsimp only; decide, by rw [t.2.1]; dsimp only; decide, okR_of hr (by rw [t.2.1]; dsimp only; decide) (.inl (by rw [t.2.1]; dsimp only; decide))⟩
  rw [if_neg k3] at h ho hm
  by_cases k4 : k = 4
  · rw [if_pos k4] at h
    have t := at_text h hg.1 (hfn.2.1 k4)
    refine ⟨t.1, by rw [t.2.1], by rw [t.2.1]; dsimp only; decide, by rw [t.2.1]; dsimp only; decide, by rw [t.2.1]; dsimp only; decide, okR_of hr (by rw [t.2.1]; dsimp only; decide) (.inl (by rw [t.2.1]; dsimp only; decide))⟩
  rw [if_neg k4] at h ho
  by_cases k5 : k = 5
  · rw [if_pos k5] at h
    rw [if_neg (by omega)] at hm
    by_cases hn0 : n ≠ 0
    · rw [if_pos hn0] at hm; cases hm
    rw [if_neg hn0, if_neg (by omega), if_neg k4, if_pos k5] at hm
    have hlen : b.length ≤ zs.length := by
      have := congrArg List.length h
      have h3 := nmS_ge13 b
      rw [List.length_drop] at this
      simp at this
      omega
    have hnz : ∀ z ∈ b, 0 < z ∧ z < 256 := fun z hz => by
      have h1 := hg.1 z hz
      have h2 := nameZ_ne hm z hz
      omega
    have t := at_name (bs := b) (rest := rest) he h hnz (hfn.1 k5) hlen
    refine ⟨t.1, by rw [t.2.1], by rw [t.2.1]; dsimp only; decide, by rw [t.2.1]; dsimp only; decide, by rw [t.2.1]; dsimp only; decide, okR_of hr (by rw [t.2.1]; dsimp only; decide) (.inl (by rw [t.2.1]; dsimp only; decide))⟩
  rw [if_neg k5] at h ho
  by_cases k9 : k = 9
  · rw [if_pos k9] at h ho hm
    have hn := of_decide_eq_true hm
    have t := at_num (whole := true) (n := n) (rest := [32, 48, 32, 82] ++ rest) (inB_true (by omega) (by omega)) (fun _ => by omega) rfl (by rw [h]; simp [nuZ])
    refine ⟨t.1, by rw [t.2.1], by rw [t.2.1]; dsimp only; decide, by rw [t.2.1]; dsimp only; decide, by rw [t.2.1]; dsimp only; decide, okR_num hr (by rw [t.2.1]; rfl) (.inl (by rw [t.2.1]; show n ≠ 0; omega))⟩
  rw [if_neg k9] at h ho
  by_cases k6 : k = 6
  · rw [if_pos k6] at h
    have t := at_open (rest := prL l true ++ [93] ++ rest) (by rw [h]; simp)
    refine ⟨t.1, by rw [t.2.1], by rw [t.2.1]; dsimp only; decide, by rw [t.2.1]; dsimp only; decide, by rw [t.2.1]; dsimp only; decide, okR_of hr (by rw [t.2.1]; dsimp only; decide) (.inl (by rw [t.2.1]; dsimp only; decide))⟩
  rw [if_neg k6] at h ho
  by_cases k7 : k = 7
  · rw [if_pos (.inl k7)] at h
    have t := at_left (rest := prE d ++ [62, 62] ++ rest) (by rw [h]; simp)
    refine ⟨t.1, by rw [t.2.1], by rw [t.2.1]; dsimp only; decide, by rw [t.2.1]; dsimp only; decide, by rw [t.2.1]; dsimp only; decide, okR_of hr (by rw [t.2.1]; dsimp only; decide) (.inl (by rw [t.2.1]; dsimp only; decide))⟩
  · rw [if_neg (by omega)] at h
    have t := at_word (c := 110) (w := [117, 108, 108]) (rest := rest) h (by decide) (by decide) (by decide) he
    refine ⟨t.1, by rw [t.2.1], by rw [t.2.1]; dsimp only; decide, by rw [t.2.1]; dsimp only; decide, by rw [t.2.1]; dsimp only; decide, okR_of hr (by rw [t.2.1]; dsimp only; decide) (.inr (by rw [t.2.1]; dsimp only; decide))⟩
omit hr in
theorem end_L (l : Obs) (rest : List Int) : endR (prL l false ++ 93 :: rest) := by
  cases l with
  | nil => exact .cons (by decide)
  | cons x xs => exact .inr ⟨32, prO x ++ prL xs false ++ 93 :: rest, by rw [prL]; simp, by decide⟩
theorem okR_L : ∀ (l : Obs) (q : Nat) (rest : List Int) (e : Int), mayL l e = true → rgL l → zs.drop q = prL l false ++ 93 :: rest → okR zs q
  | .nil, q, rest, e, hm, hg, h => by
    have t := at_close (rest := rest) (by rw [h]; rfl)
    exact okR_of hr (by rw [t.2.1]; dsimp only; decide) (.inl (by rw [t.2.1]; dsimp only; decide))
  | .cons x xs, q, rest, e, hm, hg, h => by
    rw [mayL] at hm
    split at hm
    · cases hm
    rename_i h0
    split at hm
    · rename_i h1
      unfold rgL at hg
      have hh : zs.drop q = 32 :: (prO x ++ (prL xs false ++ 93 :: rest)) := by rw [h, prL]; simp
      have w := at_wh hh (by decide)
      have ih := okR_L xs (q + 1 + (prO x).length) rest e hm hg.2 (drop_n w.2.2)
      have tk := tk_O hr h1 hg.1 (fun h2 => h0 (.inl h2)) w.2.2 (end_L xs rest) ih
      exact okR_tok hr w.2.1 tk.2.2.2.2.2
    · cases hm
omit hr in
theorem end_E (d : Ens) (rest : List Int) : endR (prE d ++ 62 :: 62 :: rest) := by
  cases d with
  | nil => exact .cons (by decide)
  | cons s x xs => exact .inr ⟨47, nmS (strZ s) ++ [32] ++ prO x ++ prE xs ++ 62 :: 62 :: rest, by rw [prE]; simp, by decide⟩
omit hr in
/-- The token of a key. -/
theorem at_key {q : Nat} {s : ByteArray} {rest : List Int} (hs : nameS s = true) (h : zs.drop q = 47 :: (nmS (strZ s) ++ 32 :: rest)) :
    blkP zs q = q ∧ tokT zs q = ⟨0, 4, 0, strZ s, q + 1 + (nmS (strZ s)).length⟩ ∧ zs.drop (q + 1 + (nmS (strZ s)).length) = 32 :: rest := by
  have hlen : (strZ s).length ≤ zs.length := by
    have := congrArg List.length h
    have h3 := nmS_ge13 (strZ s)
    rw [List.length_drop] at this
    simp only [List.length_cons, List.length_append] at this
    omega
  have hnz : ∀ z ∈ strZ s, 0 < z ∧ z < 256 := fun z hz => by
    have h1 := strZ_rng s z hz
    have h2 := nameZ_ne (b := strZ s) hs z hz
    omega
  exact at_name (bs := strZ s) (rest := 32 :: rest) (.inr ⟨_, _, rfl, by decide⟩) h hnz (nameZ_le hs) hlen
theorem okR_E (d : Ens) (q : Nat) (rest : List Int) (pv : Option ByteArray) (e : Int) (hm : mayE d pv e = true) (h : zs.drop q = prE d ++ 62 :: 62 :: rest) : okR zs q := by
  cases d with
  | nil =>
    have t := at_right (rest := rest) (by rw [h]; rfl)
    exact okR_of hr (by rw [t.2.1]; dsimp only; decide) (.inl (by rw [t.2.1]; dsimp only; decide))
  | cons s x xs =>
    rw [mayE] at hm
    split at hm
    · rename_i h1
      have t := at_key (zs := zs) (q := q) (s := s) (rest := prO x ++ prE xs ++ 62 :: 62 :: rest) h1.1 (by rw [h, prE]; simp)
      exact okR_of hr (by rw [t.2.1]; dsimp only; decide) (.inl (by rw [t.2.1]; dsimp only; decide))
    · cases hm
omit hr in
theorem strOf_strZ (s : ByteArray) : strOfNums (strZ s) = s := by
  apply ByteArray.ext
  rw [← Array.toList_inj, strOfNums_data]
  unfold strZ
  rw [List.map_map]
  refine (List.map_congr_left fun z hz => ?_).trans (List.map_id _)
  simp
omit hr in
def apL : Obs → Obs → Obs
  | .nil, r => r
  | .cons x xs, r => .cons x (apL xs r)
omit hr in
theorem apL_snoc : ∀ (l : Obs) (x : Ob) (r : Obs), apL (l.snoc x) r = apL l (.cons x r)
  | .nil, x, r => rfl
  | .cons y ys, x, r => by rw [Obs.snoc, apL, apL, apL_snoc ys x r]
omit hr in
theorem apL_nil : ∀ l : Obs, apL l .nil = l
  | .nil => rfl
  | .cons y ys => by rw [apL, apL_nil ys]
omit hr in
theorem hasK_no (s : ByteArray) : ∀ l : Ens, (∀ p ∈ l.toL, p.1 ≠ s) → hasK s l = false
  | .nil, h => rfl
  | .cons t x xs, h => by
    rw [hasK, decide_eq_false (h (t, x) (by rw [Ens.toL]; exact List.mem_cons_self ..)), hasK_no s xs (fun p hp => h p (by rw [Ens.toL]; exact List.mem_cons_of_mem _ hp))]
    rfl
mutual
theorem bk_O : ∀ (x : Ob) (e : Int) (d p f : Nat) (rest : List Int), mayO x e = true → rgO x → x.kind ≠ 8 → e ≤ d → (prO x).length ≤ f + 1 → zs.drop p = prO x ++ rest → endR rest → okR zs (p + (prO x).length) →
    begR zs (fun d q => parF zs f (.its .nil) d q) (fun d q => parF zs f (.ens .nil) d q) (tokT zs p) (blkP zs p) d = ⟨0, x, p + (prO x).length⟩
  | .mk k n b l D, e, d, p, f, rest, hm, hg, h8, hd, hf, h, he, ho => by
    change k ≠ 8 at h8
    have hfn := fn_mayO _ _ hm
    obtain ⟨f1, f2, f3, f4⟩ := may_fields hm
    unfold rgO at hg
    unfold fnO at hfn
    rw [mayO] at hm
    rw [prO] at h ho hf ⊢
    by_cases hbf : badF k b.length l.len D.len = true
    · rw [if_pos hbf] at hm; cases hm
    rw [if_neg hbf] at hm
    by_cases k1 : k = 1
    · subst k1
      obtain rfl : b = [] := f1.resolve_right (by omega)
      obtain rfl : l = .nil := f2.resolve_right (by omega)
      obtain rfl : D = .nil := f3.resolve_right (by omega)
      rw [if_pos rfl] at h hm ⊢
      have hn := of_decide_eq_true hm
      by_cases n1 : n = 1
      · rw [if_pos n1] at h ⊢
        have t := at_word (c := 116) (w := [114, 117, 101]) (rest := rest) h (by decide) (by decide) (by decide) he
        rw [t.2.1, n1]
        rfl
      · rw [if_neg n1] at h ⊢
        have t := at_word (c := 102) (w := [97, 108, 115, 101]) (rest := rest) h (by decide) (by decide) (by decide) he
        obtain rfl : n = 0 := hn.resolve_right n1
        rw [t.2.1]
        rfl
    rw [if_neg k1] at h ho hm hf ⊢
    by_cases k2 : k = 2
    · subst k2
      obtain rfl : b = [] := f1.resolve_right (by omega)
      obtain rfl : l = .nil := f2.resolve_right (by omega)
      obtain rfl : D = .nil := f3.resolve_right (by omega)
      rw [if_pos rfl] at h ho hm ⊢
      have hn := of_decide_eq_true hm
      have t := at_num (whole := true) (rest := rest) (inB_true (by omega) (by omega)) (fun _ => hn) (row_stopR regB he) h
      rw [nuZ_txt] at ho ⊢
      have t2 := t.2.1
      rw [if_pos rfl] at t2
      rw [t2]
      unfold begR
      dsimp only
      rw [if_pos rfl]
      unfold wholeR
      rw [if_neg (fun hh => by rw [ho.1] at hh; exact absurd hh.2 (by simp))]
    rw [if_neg k2] at h ho hm hf ⊢
    by_cases k3 : k = 3
    · subst k3
      obtain rfl : b = [] := f1.resolve_right (by omega)
      obtain rfl : l = .nil := f2.resolve_right (by omega)
      obtain rfl : D = .nil := f3.resolve_right (by omega)
      rw [if_pos rfl] at h ho hm ⊢
      have hn := of_decide_eq_true hm
      have t := at_num (whole := false) (rest := rest) (inB_true hn.1 hn.2) (fun h => by cases h) (row_stopR regB he) h
      rw [t.2.1, nuZ_txt]
      rfl
    rw [if_neg k3] at h ho hm hf ⊢
    by_cases k4 : k = 4
    · subst k4
      obtain rfl : l = .nil := f2.resolve_right (by omega)
      obtain rfl : D = .nil := f3.resolve_right (by omega)
      obtain rfl : n = 0 := f4.resolve_right (by omega)
      rw [if_pos rfl] at h ⊢
      have t := at_text h hg.1 (hfn.2.1 rfl)
      rw [t.2.1]
      rfl
    rw [if_neg k4] at h ho hf ⊢
    by_cases k5 : k = 5
    · subst k5
      obtain rfl : l = .nil := f2.resolve_right (by omega)
      obtain rfl : D = .nil := f3.resolve_right (by omega)
      obtain rfl : n = 0 := f4.resolve_right (by omega)
      rw [if_pos rfl] at h ⊢
      rw [if_neg (by decide), if_neg (by decide), if_neg (by decide), if_neg (by decide), if_pos rfl] at hm
      have hlen : b.length ≤ zs.length := by
        have := congrArg List.length h
        have h3 := nmS_ge13 b
        rw [List.length_drop] at this
        simp at this
        omega
      have hnz : ∀ z ∈ b, 0 < z ∧ z < 256 := fun z hz => by
        have h1 := hg.1 z hz
        have h2 := nameZ_ne hm z hz
        omega
      have t := at_name (bs := b) (rest := rest) he h hnz (hfn.1 rfl) hlen
      rw [t.2.1, List.length_cons, show p + ((nmS b).length + 1) = p + 1 + (nmS b).length by omega]
      rfl
    rw [if_neg k5] at h ho hf ⊢
    by_cases k9 : k = 9
    · subst k9
      obtain rfl : b = [] := f1.resolve_right (by omega)
      obtain rfl : l = .nil := f2.resolve_right (by omega)
      obtain rfl : D = .nil := f3.resolve_right (by omega)
      rw [if_pos rfl] at h ho hm ⊢
      have hn := of_decide_eq_true hm
      have t := at_num (whole := true) (n := n) (rest := [32, 48, 32, 82] ++ rest) (inB_true (by omega) (by omega)) (fun _ => by omega) rfl (by rw [h]; simp [nuZ])
      have t1 := at_wh (c := 32) (rest := 48 :: 32 :: 82 :: rest) t.2.2 (by decide)
      have t2 := at_num (n := 0) (whole := true) (rest := 32 :: 82 :: rest) (by decide) (fun _ => by decide) rfl (show zs.drop _ = zsB (textB 0 true) ++ _ from t1.2.2)
      have e0 : (textB 0 true).length = 1 := by decide +kernel
      rw [e0] at t2
      have t3 := at_wh (c := 32) (rest := 82 :: rest) t2.2.2 (by decide)
      have t4 := at_word (c := 82) (w := []) (rest := rest) t3.2.2 (by decide) (by decide) (by decide) he
      have kw := kwR_tok zs hr (p + (textB n true).length + 1 + 1)
      rw [t3.2.1, t4.2.1] at kw
      rw [List.length_append, nuZ_txt]
      have t5 := t.2.1
      rw [if_pos rfl] at t5
      rw [t5]
      unfold begR
      dsimp only
      rw [if_pos rfl]
      unfold wholeR
      have hrf : refB zs (p + (textB n true).length) = true := by
        unfold refB
        rw [t1.2.1, t2.2.1]
        dsimp only
        rw [kw.1]
        rfl
      rw [if_pos ⟨hn, hrf⟩, t1.2.1, t2.2.1]
      dsimp only
      rw [kw.2 (by rw [kw.1]; rfl)]
      rfl
    rw [if_neg k9] at h ho hm hf ⊢
    by_cases hn0 : n ≠ 0
    · rw [if_pos hn0] at hm; cases hm
    rw [if_neg hn0] at hm
    by_cases k6 : k = 6
    · subst k6
      obtain rfl : b = [] := f1.resolve_right (by omega)
      obtain rfl : D = .nil := f3.resolve_right (by omega)
      obtain rfl : n = 0 := f4.resolve_right (by omega)
      rw [if_pos rfl] at h hf ⊢
      rw [if_neg (by decide), if_neg (by decide), if_neg (by decide), if_pos rfl, Bool.and_eq_true] at hm
      have h1e : 1 ≤ e := of_decide_eq_true hm.2
      have t := at_open (rest := prL l true ++ 93 :: rest) (by rw [h]; simp)
      obtain ⟨dd, rfl⟩ : ∃ dd, d = dd + 1 := ⟨d - 1, by omega⟩
      simp only [List.length_append, List.length_cons, List.length_nil] at hf
      have ih := bk_L l .nil true e dd (p + 1) f rest hm.1 hg.2.1 (by omega) (by omega) t.2.2
      rw [t.2.1]
      unfold begR
      dsimp only
      rw [if_neg (by decide), if_neg (by decide), if_neg (by decide), if_neg (by decide), if_neg (by decide), if_pos rfl, if_neg (Nat.succ_ne_zero dd), Nat.add_sub_cancel, ih]
      simp only [List.length_append, List.length_cons, List.length_nil]
      rw [show p + 1 + (prL l true).length + 1 = p + (0 + 1 + (prL l true).length + (0 + 1)) by omega]
      rfl
    rw [if_neg k6] at h ho hf ⊢
    by_cases k7 : k = 7
    · subst k7
      obtain rfl : b = [] := f1.resolve_right (by omega)
      obtain rfl : l = .nil := f2.resolve_right (by omega)
      obtain rfl : n = 0 := f4.resolve_right (by omega)
      rw [if_pos (.inl rfl)] at h hf ⊢
      rw [if_neg (by decide), if_neg (by decide), if_neg (by decide), if_neg (by decide), if_pos (.inl rfl)] at hm
      by_cases he1 : e < 1 ∨ 16777216 < ([] : List Int).length
      · rw [if_pos he1] at hm; cases hm
      rw [if_neg he1] at hm
      have h1e : 1 ≤ e := by omega
      have hm := And.intro h1e hm
      have t := at_left (rest := prE D ++ 62 :: 62 :: rest) (by rw [h]; simp)
      obtain ⟨dd, rfl⟩ : ∃ dd, d = dd + 1 := ⟨d - 1, by omega⟩
      simp only [List.length_append, List.length_cons, List.length_nil] at hf
      have ih := bk_E D .nil none e dd (p + 2) f rest hm.2 hg.2.2 (by omega) (by omega) (by simpa [Ens.app] using (mayE_ss D none e hm.2).1) t.2.2
      rw [t.2.1]
      unfold begR
      dsimp only
      rw [if_neg (by decide), if_neg (by decide), if_neg (by decide), if_neg (by decide), if_neg (by decide), if_neg (by decide), if_pos rfl, if_neg (Nat.succ_ne_zero dd), Nat.add_sub_cancel, ih]
      simp only [List.length_append, List.length_cons, List.length_nil]
      rw [show p + 2 + (prE D).length + 2 = p + (0 + 1 + 1 + (prE D).length + (0 + 1 + 1)) by omega, show Ens.app .nil D = D from rfl, dict_self13 hm.2]
    · rw [if_neg (by omega)] at h ⊢
      have t := at_word (c := 110) (w := [117, 108, 108]) (rest := rest) h (by decide) (by decide) (by decide) he
      have hk0 : k = 0 := by
        by_cases hz : k = 0
        · exact hz
        · rw [if_neg hz, if_neg k4, if_neg k5, if_neg k6, if_neg (by omega)] at hm
          cases hm
      subst hk0
      obtain rfl : b = [] := f1.resolve_right (by omega)
      obtain rfl : l = .nil := f2.resolve_right (by omega)
      obtain rfl : D = .nil := f3.resolve_right (by omega)
      obtain rfl : n = 0 := f4.resolve_right (by omega)
      rw [t.2.1]
      rfl
theorem bk_L : ∀ (l acc : Obs) (fst : Bool) (e : Int) (d p f : Nat) (rest : List Int), mayL l e = true → rgL l → e ≤ d + 1 → (prL l fst).length + 1 ≤ f → zs.drop p = prL l fst ++ 93 :: rest →
    parF zs f (.its acc) d p = ⟨0, .mk 6 0 [] (apL acc l) .nil, p + (prL l fst).length + 1⟩
  | .nil, acc, fst, e, d, p, 0, rest, hm, hg, hd, hf, h => by omega
  | .nil, acc, fst, e, d, p, f + 1, rest, hm, hg, hd, hf, h => by
    have t := at_close (rest := rest) (by rw [h]; rfl)
    rw [parF, t.2.1, if_neg (fun h => h rfl), if_pos rfl, apL_nil]
    rfl
  | .cons x xs, acc, fst, e, d, p, 0, rest, hm, hg, hd, hf, h => by omega
  | .cons x xs, acc, fst, e, d, p, f + 1, rest, hm, hg, hd, hf, h => by
    rw [mayL] at hm
    split at hm
    · cases hm
    rename_i h0
    split at hm
    · rename_i h1
      unfold rgL at hg
      rw [prL] at h hf ⊢
      obtain ⟨sp, hsp⟩ : ∃ sp, (if fst = true then ([] : List Int) else [32]) = sp := ⟨_, rfl⟩
      rw [hsp] at h hf ⊢
      have hd1 : zs.drop (p + sp.length) = prO x ++ (prL xs false ++ 93 :: rest) := drop_n (by rw [h]; simp)
      have htk : tokT zs p = tokT zs (p + sp.length) ∧ blkP zs p = blkP zs (p + sp.length) := by
        cases fst with
        | true => simp at hsp; subst hsp; exact ⟨rfl, rfl⟩
        | false =>
          simp at hsp
          subst hsp
          have w := at_wh (c := 32) (rest := prO x ++ (prL xs false ++ 93 :: rest)) (by rw [h]; simp) (by decide)
          exact ⟨w.2.1, w.1⟩
      have hok := okR_L hr xs (p + sp.length + (prO x).length) rest e hm hg.2 (drop_n hd1)
      have tk := tk_O hr h1 hg.1 (fun h2 => h0 (.inl h2)) hd1 (end_L xs rest) hok
      simp only [List.length_append] at hf
      have hb := bk_O x (e - 1) d (p + sp.length) f (prL xs false ++ 93 :: rest) h1 hg.1 (fun h2 => h0 (.inl h2)) (by omega) (by omega) hd1 (end_L xs rest) hok
      have hpos := prO_pos x
      have ih := bk_L xs (acc.snoc x) false e d (p + sp.length + (prO x).length) f rest hm hg.2 hd (by omega) (drop_n hd1)
      rw [parF, htk.1, htk.2, if_neg (fun h => h tk.2.1), if_neg tk.2.2.2.1, hb]
      dsimp only
      rw [if_neg (fun h => h rfl), ih, apL_snoc]
      simp only [List.length_append]
      rw [show p + sp.length + (prO x).length + (prL xs false).length + 1 = p + (sp.length + (prO x).length + (prL xs false).length) + 1 by omega]
    · cases hm
theorem bk_E : ∀ (D acc : Ens) (pv : Option ByteArray) (e : Int) (d p f : Nat) (rest : List Int), mayE D pv e = true → rgE D → e ≤ d + 1 → (prE D).length + 2 ≤ f → SS (acc.app D).toL → zs.drop p = prE D ++ 62 :: 62 :: rest →
    parF zs f (.ens acc) d p = ⟨0, .mk 7 0 [] .nil (dictF (acc.app D) .nil), p + (prE D).length + 2⟩
  | .nil, acc, pv, e, d, p, 0, rest, hm, hg, hd, hf, hS, h => by omega
  | .nil, acc, pv, e, d, p, f + 1, rest, hm, hg, hd, hf, hS, h => by
    have t := at_right (rest := rest) (by rw [h]; rfl)
    rw [parF, t.2.1, if_neg (fun h => h rfl), if_pos rfl, Ens.app_nil]
    rfl
  | .cons s x xs, acc, pv, e, d, p, 0, rest, hm, hg, hd, hf, hS, h => by omega
  | .cons s x xs, acc, pv, e, d, p, 1, rest, hm, hg, hd, hf, hS, h => by omega
  | .cons s x xs, acc, pv, e, d, p, f + 1 + 1, rest, hm, hg, hd, hf, hS, h => by
    rw [mayE] at hm
    split at hm
    · rename_i h1
      unfold rgE at hg
      rw [prE] at h hf ⊢
      have t := at_key (zs := zs) (q := p) (s := s) (rest := prO x ++ (prE xs ++ 62 :: 62 :: rest)) h1.1 (by rw [h]; simp)
      obtain ⟨q, hq⟩ : ∃ q, p + 1 + (nmS (strZ s)).length = q := ⟨_, rfl⟩
      rw [hq] at t
      have w := at_wh t.2.2 (by decide)
      have hok := okR_E hr xs (q + 1 + (prO x).length) rest (some s) e hm (drop_n w.2.2)
      have tk := tk_O hr h1.2.2.2.2 hg.1 h1.2.2.1 w.2.2 (end_E xs rest) hok
      simp only [List.length_append, List.length_cons, List.length_nil] at hf
      have hb := bk_O x (e - 1) d (q + 1) f (prE xs ++ 62 :: 62 :: rest) h1.2.2.2.2 hg.1 h1.2.2.1 (by omega) (by omega) w.2.2 (end_E xs rest) hok
      have ih := bk_E xs (acc.snoc s x) (some s) e d (q + 1 + (prO x).length) (f + 1) rest hm hg.2 hd (by omega) (by rw [Ens.snoc_app]; exact hS) (drop_n w.2.2)
      have hv : parF zs (f + 1) .val d q = ⟨0, x, q + 1 + (prO x).length⟩ := by
        rw [parF, w.2.1, w.1, if_neg (fun h => h tk.2.1), hb]
      have hno : hasK (strOfNums (strZ s)) acc = false := by
        rw [strOf_strZ]
        refine hasK_no s acc (fun p hp => ?_)
        rw [app_toL, Ens.toL] at hS
        exact lt_ne ((List.pairwise_append.1 hS).2.2 p hp (s, x) (List.mem_cons_self ..))
      rw [parF, t.2.1, if_neg (fun h => h rfl)]
      dsimp only
      rw [if_neg (by decide), if_neg (by decide)]
      rw [if_neg (by rintro (h | h); exact h rfl; rw [hno] at h; cases h), hv]
      dsimp only
      rw [if_neg (fun h => h rfl), strOf_strZ, ih, Ens.snoc_app]
      simp only [List.length_append, List.length_cons, List.length_nil]
      rw [show q + 1 + (prO x).length + (prE xs).length + 2 = p + ((nmS (strZ s)).length + 1 + (0 + 1) + (prO x).length + (prE xs).length) + 2 by omega]
    · cases hm
end
/-- What is printed is read as it was: the object, and where one stands. -/
theorem bk_val (x : Ob) (e : Int) (d p f : Nat) (rest : List Int) (hm : mayO x e = true) (hg : rgO x) (h8 : x.kind ≠ 8) (hd : e ≤ d) (hf : (prO x).length ≤ f + 1) (h : zs.drop p = prO x ++ rest) (he : endR rest) (ho : okR zs (p + (prO x).length)) :
    parF zs (f + 1) .val d p = ⟨0, x, p + (prO x).length⟩ := by
  have tk := tk_O hr hm hg h8 h he ho
  rw [parF, if_neg (fun h => h tk.2.1), bk_O hr x e d p f rest hm hg h8 hd hf h he ho]
end
section
variable {w : World} {S : Nat → Prop}
mutual
theorem rg_O : ∀ (x : Ob) {c0 c1 c2 c3 c4 : Value}, ObR w S x c0 c1 c2 c3 c4 → rgO x
  | .mk k n b l d, c0, c1, c2, c3, c4, h => by
    unfold ObR at h
    obtain ⟨_, _, _, _, ⟨A2, m2, d2, _, hB⟩, ⟨A3, d3, _, _, hl⟩, ⟨A4, d4, _, _, hd⟩⟩ := h
    unfold rgO
    refine ⟨hB.2.2.1, ?_, ?_⟩
    · rcases Nat.eq_zero_or_pos l.len with h0 | h0
      · rw [Obs.nil_of h0]; unfold rgL; trivial
      · obtain ⟨g, o, _, _, h⟩ := hl h0
        exact rg_L l g o h
    · rcases Nat.eq_zero_or_pos d.len with h0 | h0
      · rw [Ens.nil_of h0]; unfold rgE; trivial
      · obtain ⟨g, o, _, _, h⟩ := hd h0
        exact rg_E d g o h
theorem rg_L : ∀ (l : Obs) (g o : Nat), ObsR w S l g o → rgL l
  | .nil, g, o, h => by unfold rgL; trivial
  | .cons x xs, g, o, h => by
    unfold ObsR at h
    obtain ⟨⟨c0, c1, c2, c3, c4, _, _, _, _, _, hx⟩, hs⟩ := h
    unfold rgL
    exact ⟨rg_O x hx, rg_L xs g (o + 5) hs⟩
theorem rg_E : ∀ (d : Ens) (g o : Nat), EnsR w S d g o → rgE d
  | .nil, g, o, h => by unfold rgE; trivial
  | .cons s x xs, g, o, h => by
    unfold EnsR at h
    obtain ⟨⟨c0, c1, c2, c3, c4, _, _, _, _, _, _, hx⟩, hs⟩ := h
    unfold rgE
    exact ⟨rg_O x hx, rg_E xs g (o + 6) hs⟩
end
end
end

section
open Go.RowKit
set_option linter.unusedVariables false
set_option maxRecDepth 100000
mutual
theorem same_prO : ∀ (x y : Ob), sameO x y = true → prO x = prO y
  | .mk k n b l d, .mk k2 n2 b2 l2 d2, h => by
    rw [sameO] at h
    split at h
    · rename_i hk
      subst hk
      rw [prO, prO]
      by_cases h1 : k = 1 ∨ k = 2 ∨ k = 3 ∨ k = 9
      · rw [if_pos h1] at h
        have hn := of_decide_eq_true h
        subst hn
        rcases h1 with rfl | rfl | rfl | rfl <;> rfl
      rw [if_neg h1] at h
      by_cases h4 : k = 4 ∨ k = 5
      · rw [if_pos h4, sameZ_eq] at h
        have hb := of_decide_eq_true h
        subst hb
        rcases h4 with rfl | rfl <;> rfl
      rw [if_neg h4] at h
      have k1 : ¬ k = 1 := by omega
      have k2 : ¬ k = 2 := by omega
      have k3 : ¬ k = 3 := by omega
      have k4 : ¬ k = 4 := by omega
      have k5 : ¬ k = 5 := by omega
      have k9 : ¬ k = 9 := by omega
      simp only [if_neg k1, if_neg k2, if_neg k3, if_neg k4, if_neg k5, if_neg k9]
      by_cases h6 : k = 6
      · rw [if_pos h6] at h ⊢
        rw [if_pos h6, same_prL l l2 true h]
      rw [if_neg h6] at h ⊢
      rw [if_neg h6]
      by_cases h7 : k = 7 ∨ k = 8
      · rw [if_pos h7] at h ⊢
        rw [if_pos h7]
        split at h
        · cases h
        · rw [same_prE d d2 h]
      · rw [if_neg h7, if_neg h7]
    · cases h
theorem same_prL : ∀ (x y : Obs) (f : Bool), sameL x y = true → prL x f = prL y f
  | .nil, .nil, f, h => rfl
  | .nil, .cons _ _, f, h => by rw [sameL] at h; cases h
  | .cons _ _, .nil, f, h => by rw [sameL] at h; cases h
  | .cons x xs, .cons y ys, f, h => by
    rw [sameL] at h
    split at h
    · rename_i h1
      rw [prL, prL, same_prO x y h1, same_prL xs ys false h]
    · cases h
theorem same_prE : ∀ (x y : Ens), sameE x y = true → prE x = prE y
  | .nil, .nil, h => rfl
  | .nil, .cons _ _ _, h => by rw [sameE] at h; cases h
  | .cons _ _ _, .nil, h => by rw [sameE] at h; cases h
  | .cons s x xs, .cons t y ys, h => by
    rw [sameE] at h
    split at h
    · rename_i h0
      split at h
      · rename_i h1
        rw [prE, prE, same_prO x y h1, same_prE xs ys h, h0]
      · cases h
    · cases h
end
/-- The whole of a text that is an object's is read as the object. -/
theorem read_back {x : Ob} (hm : mayO x 28 = true) (hg : rgO x) (h8 : x.kind ≠ 8) (hr : ∀ z ∈ prO x, 0 ≤ z ∧ z < 256) : parF (prO x) ((prO x).length + 1) .val 28 0 = ⟨0, x, (prO x).length⟩ := by
  have h0 : (prO x).drop (0 + (prO x).length) = [] := by simp
  have te := end_tok (prO x) (0 + (prO x).length) h0
  have := bk_val hr x 28 28 0 (prO x).length [] hm hg h8 (by omega) (by omega) (by simp) (.inl rfl) (okR_of hr (by rw [te.2]; dsimp only; decide) (.inl (by rw [te.2]; dsimp only; decide)))
  rw [Nat.zero_add] at this
  exact this
theorem unlike {x y : Ob} (hx : mayO x 28 = true) (hy : mayO y 28 = true) (gx : rgO x) (gy : rgO y) (kx : x.kind ≠ 8) (ky : y.kind ≠ 8) (hr : ∀ z ∈ prO x, 0 ≤ z ∧ z < 256) : sameZ (prO x) (prO y) = sameO x y := by
  rw [sameZ_eq]
  cases h : sameO x y with
  | true => exact decide_eq_true (same_prO x y h)
  | false =>
    refine decide_eq_false fun e => ?_
    have h1 := read_back hx gx kx hr
    have h2 := read_back hy gy ky (e ▸ hr)
    rw [← e, h1] at h2
    injection h2 with _ h2 _
    rw [h2, sameO_self] at h
    cases h
end
end Go.Proofs.YtliieeagbpmcgaaDoor
