/- Chapter 10: an object that may be and that is small: how much of it there is. -/
import Derived.Test.YtkloipjkialakaaMa10
import Derived.Test.YtkloipjkialakaaRo10
import Derived.Test.YtkloipjkialakaaPk10
import Derived.Test.YtkloipjkialakaaSq10
namespace Go.Proofs.Ytkloipjkialakaa
open Go.RowKit
set_option linter.unusedVariables false
set_option maxRecDepth 100000

theorem Obs.nil_of {l : Obs} (h : l.len = 0) : l = .nil := by
  cases l with
  | nil => rfl
  | cons x xs => simp [Obs.len] at h
theorem Ens.nil_of {l : Ens} (h : l.len = 0) : l = .nil := by
  cases l with
  | nil => rfl
  | cons s x xs => simp [Ens.len] at h
theorem may_parts {k n : Int} {b : List Int} {l : Obs} {d : Ens} {e : Int} (h : mayO (.mk k n b l d) e = true) : (0 ≤ k ∧ k ≤ 9) ∧ (l = .nil ∨ mayL l e = true) ∧ (d = .nil ∨ mayE d none e = true) ∧ (l = .nil ∨ d = .nil) := by
  rw [mayO] at h
  by_cases hb : badF k b.length l.len d.len = true
  · rw [if_pos hb] at h; cases h
  rw [if_neg hb] at h
  have hl : l = .nil ∨ k = 6 := by
    rcases Nat.eq_zero_or_pos l.len with h0 | h0
    · exact .inl (Obs.nil_of h0)
    · refine .inr (Classical.byContradiction fun hk => hb ?_)
      unfold badF; exact decide_eq_true (.inl ⟨h0, hk⟩)
  have hd : d = .nil ∨ k = 7 ∨ k = 8 := by
    rcases Nat.eq_zero_or_pos d.len with h0 | h0
    · exact .inl (Ens.nil_of h0)
    · refine .inr (Classical.byContradiction fun hk => hb ?_)
      unfold badF; exact decide_eq_true (.inr (.inl ⟨h0, fun e => hk (.inl e), fun e => hk (.inr e)⟩))
  by_cases h6 : k = 6
  · subst h6
    have hd : d = .nil := by rcases hd with h | h | h; exact h; omega; omega
    by_cases hn : n = 0
    · simp [hn] at h
      exact ⟨by omega, .inr h.1, .inl hd, .inr hd⟩
    · simp [hn] at h
  · have hl : l = .nil := hl.resolve_right h6
    by_cases h78 : k = 7 ∨ k = 8
    · have h1 : ¬ k = 1 := by omega
      have h2 : ¬ k = 2 := by omega
      have h3 : ¬ k = 3 := by omega
      have h9 : ¬ k = 9 := by omega
      have h0 : ¬ k = 0 := by omega
      have h4 : ¬ k = 4 := by omega
      have h5 : ¬ k = 5 := by omega
      rw [if_neg h1, if_neg h2, if_neg h3, if_neg h9] at h
      by_cases hn : n ≠ 0
      · rw [if_pos hn] at h; cases h
      rw [if_neg hn, if_neg h0, if_neg h4, if_neg h5, if_neg h6, if_pos h78] at h
      by_cases hx : e < 1 ∨ 16777216 < b.length
      · rw [if_pos hx] at h; cases h
      rw [if_neg hx] at h
      exact ⟨by omega, .inl hl, .inr h, .inl hl⟩
    · have hd : d = .nil := by rcases hd with h | h; exact h; exact absurd h h78
      refine ⟨?_, .inl hl, .inl hd, .inl hl⟩
      by_cases h1 : k = 1
      · omega
      by_cases h2 : k = 2
      · omega
      by_cases h3 : k = 3
      · omega
      by_cases h9 : k = 9
      · omega
      by_cases h0 : k = 0
      · omega
      by_cases h4 : k = 4
      · omega
      by_cases h5 : k = 5
      · omega
      rw [if_neg h1, if_neg h2, if_neg h3, if_neg h9] at h
      by_cases hn : n ≠ 0
      · rw [if_pos hn] at h; cases h
      rw [if_neg hn, if_neg h0, if_neg h4, if_neg h5, if_neg h6, if_neg h78] at h
      cases h
theorem wrap_small {n : Nat} (h : n ≤ 9223372036854775807) : IntKind.i64.wrap (n : Int) = n := IntWalk.i64_in _ (by omega)
section
variable {w : World} {S : Nat → Prop}
mutual
theorem roomW (m : Nat) (hm : m ≤ 1000000) : ∀ (x : Ob) (c0 c1 c2 c3 c4 : Value) (e dp : Int), ObR w S x c0 c1 c2 c3 c4 → mayO x e = true → roomO x dp m = true → wdO m x ∧ (htO x : Int) ≤ dp + 1 ∧ okO x
  | .mk k n b l d, c0, c1, c2, c3, c4, e, dp, hx, hmay, hroom => by
    unfold ObR at hx
    obtain ⟨rfl, rfl, hk, hn, ⟨AB, mb, cb, rfl, hB⟩, ⟨AL, cL, rfl, hlc, hl⟩, ⟨AD, cD, rfl, hdc, hd⟩⟩ := hx
    obtain ⟨-, p1, p2, p3⟩ := may_parts hmay
    rw [roomO] at hroom
    by_cases hc : dp < 0 ∨ 3000 < b.length ∨ (m : Int) < IntKind.i64.wrap ((l.len : Int) + (d.len : Int))
    · rw [if_pos hc] at hroom; cases hroom
    rw [if_neg hc] at hroom
    have hsum : l.len + d.len ≤ m := by
      have h3 : ¬ (m : Int) < IntKind.i64.wrap ((l.len : Int) + (d.len : Int)) := fun h => hc (.inr (.inr h))
      rcases p3 with rfl | rfl
      · rw [show ((Obs.len .nil : Nat) : Int) = 0 from rfl, Int.zero_add, wrap_small (by omega)] at h3
        rw [show Obs.len .nil = 0 from rfl]; omega
      · rw [show ((Ens.len .nil : Nat) : Int) = 0 from rfl, Int.add_zero, wrap_small (by omega)] at h3
        rw [show Ens.len .nil = 0 from rfl]; omega
    simp only [Bool.and_eq_true] at hroom
    have hdp : 0 ≤ dp := by omega
    have hb : b.length ≤ 3000 := by omega
    have qL : wdL m l ∧ (htL l : Int) ≤ dp ∧ okL l := by
      rcases p1 with rfl | p1
      · unfold wdL okL; rw [htL]; exact ⟨trivial, by omega, trivial⟩
      · rcases Nat.eq_zero_or_pos l.len with h0 | h0
        · obtain rfl := Obs.nil_of h0
          unfold wdL okL; rw [htL]; exact ⟨trivial, by omega, trivial⟩
        · obtain ⟨g, o, _, _, hr⟩ := hl h0
          have := roomWL m hm l g o e (dp - 1) (by omega) hr p1 hroom.1
          exact ⟨this.1, by omega, this.2.2⟩
    have qE : wdE m d ∧ (htE d : Int) ≤ dp ∧ okE d := by
      rcases p2 with rfl | p2
      · unfold wdE okE; rw [htE]; exact ⟨trivial, by omega, trivial⟩
      · rcases Nat.eq_zero_or_pos d.len with h0 | h0
        · obtain rfl := Ens.nil_of h0
          unfold wdE okE; rw [htE]; exact ⟨trivial, by omega, trivial⟩
        · obtain ⟨g, o, _, _, hr⟩ := hd h0
          have := roomWE m hm d none g o e (dp - 1) (by omega) hr p2 hroom.2
          exact ⟨this.1, by omega, this.2.2⟩
    unfold wdO okO
    rw [htO]
    exact ⟨⟨by omega, hsum, qL.1, qE.1⟩, by have := qL.2.1; have := qE.2.1; omega, by omega, by omega, by omega, qL.2.2, qE.2.2⟩
theorem roomWL (m : Nat) (hm : m ≤ 1000000) : ∀ (l : Obs) (g o : Nat) (e dp : Int), -1 ≤ dp → ObsR w S l g o → mayL l e = true → roomL l dp m = true → wdL m l ∧ (htL l : Int) ≤ dp + 1 ∧ okL l
  | .nil, g, o, e, dp, hdp, hr, hmay, hroom => by unfold wdL okL; rw [htL]; exact ⟨trivial, by omega, trivial⟩
  | .cons x xs, g, o, e, dp, hdp, hr, hmay, hroom => by
    unfold ObsR at hr
    obtain ⟨⟨c0, c1, c2, c3, c4, _, _, _, _, _, hx⟩, hxs⟩ := hr
    rw [roomL, Bool.and_eq_true] at hroom
    rw [mayL] at hmay
    by_cases h1 : x.kind = 8 ∨ e < 1
    · rw [if_pos h1] at hmay; cases hmay
    rw [if_neg h1] at hmay
    by_cases h2 : mayO x (e - 1) = true
    · rw [if_pos h2] at hmay
      have a := roomW m hm x c0 c1 c2 c3 c4 (e - 1) dp hx h2 hroom.1
      have b := roomWL m hm xs g (o + 5) e dp hdp hxs hmay hroom.2
      unfold wdL okL; rw [htL]
      exact ⟨⟨a.1, b.1⟩, by have := a.2.1; have := b.2.1; omega, a.2.2, b.2.2⟩
    · rw [if_neg h2] at hmay; cases hmay
theorem roomWE (m : Nat) (hm : m ≤ 1000000) : ∀ (d : Ens) (pv : Option ByteArray) (g o : Nat) (e dp : Int), -1 ≤ dp → EnsR w S d g o → mayE d pv e = true → roomE d dp m = true → wdE m d ∧ (htE d : Int) ≤ dp + 1 ∧ okE d
  | .nil, pv, g, o, e, dp, hdp, hr, hmay, hroom => by unfold wdE okE; rw [htE]; exact ⟨trivial, by omega, trivial⟩
  | .cons s x xs, pv, g, o, e, dp, hdp, hr, hmay, hroom => by
    unfold EnsR at hr
    obtain ⟨⟨c0, c1, c2, c3, c4, _, _, _, _, _, _, hx⟩, hxs⟩ := hr
    rw [roomE, Bool.and_eq_true] at hroom
    rw [mayE] at hmay
    by_cases h1 : nameS s = true ∧ (∀ p, pv = some p → leS s p = false) ∧ x.kind ≠ 8 ∧ x.kind ≠ 0 ∧ mayO x (e - 1) = true
    · rw [if_pos h1] at hmay
      by_cases h3 : 300 < s.size
      · rw [if_pos h3] at hroom; cases hroom.1
      rw [if_neg h3] at hroom
      have a := roomW m hm x c0 c1 c2 c3 c4 (e - 1) dp hx h1.2.2.2.2 hroom.1
      have b := roomWE m hm xs (some s) g (o + 6) e dp hdp hxs hmay hroom.2
      unfold wdE okE; rw [htE]
      exact ⟨⟨a.1, b.1⟩, by have := a.2.1; have := b.2.1; omega, a.2.2, b.2.2⟩
    · rw [if_neg h1] at hmay; cases hmay
end
end
theorem may_kind {x : Ob} {e : Int} (h : mayO x e = true) : 0 ≤ x.kind ∧ x.kind ≤ 9 := by
  obtain ⟨k, n, b, l, d⟩ := x
  exact (may_parts h).1
/-- What each entry has, all have. -/
theorem ens_all (W : Nat) (n : Nat) : ∀ (l : Ens), (∀ i s x, l.get? i = some (s, x) → wdO W x ∧ htO x ≤ n ∧ okO x ∧ (0 ≤ x.kind ∧ x.kind ≤ 9)) → wdE W l ∧ htE l ≤ n ∧ okE l ∧ (∀ p ∈ l.toL, 0 ≤ p.2.kind ∧ p.2.kind ≤ 9)
  | .nil, _ => by unfold wdE okE; rw [htE, Ens.toL]; exact ⟨trivial, by omega, trivial, fun p hp => by cases hp⟩
  | .cons s x xs, h => by
    obtain ⟨a1, a2, a3, a4⟩ := h 0 s x rfl
    obtain ⟨b1, b2, b3, b4⟩ := ens_all W n xs (fun i t y hy => h (i + 1) t y (by simpa [Ens.get?] using hy))
    unfold wdE okE; rw [htE, Ens.toL]
    exact ⟨⟨a1, b1⟩, by omega, ⟨a3, b3⟩, fun p hp => by
      rcases List.mem_cons.1 hp with rfl | hp
      · exact a4
      · exact b4 p hp⟩
end Go.Proofs.Ytkloipjkialakaa
