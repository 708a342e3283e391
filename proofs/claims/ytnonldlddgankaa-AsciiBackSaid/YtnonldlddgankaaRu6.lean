/- Chapter 6, the document's own reader of digits: group. -/
import Derived.Test.YtnonldlddgankaaSk6
import Derived.Test.YtnonldlddgankaaWh6
namespace Go.Proofs.Ytnonldlddgankaa
open Go.RowKit
set_option linter.unusedVariables false
set_option maxRecDepth 100000

/-- The number of the first k of five digits. -/
def vK (g : List Int) : Nat → Int
  | 0 => 0
  | k + 1 => vK g k * 85 + g.getD k 84
theorem vK5 (g : List Int) : vK g 5 = v85 g := by simp [vK, v85]
theorem vK_bd (g : List Int) (h : ∀ d ∈ g, 0 ≤ d ∧ d ≤ 84) : ∀ k, k ≤ 5 → 0 ≤ vK g k ∧ vK g k < 85 ^ k
  | 0, _ => by simp [vK]
  | k + 1, hk => by
    have h1 := vK_bd g h k (by omega)
    have hd : 0 ≤ g.getD k 84 ∧ g.getD k 84 ≤ 84 := by
      rcases Nat.lt_or_ge k g.length with hi | hi
      · rw [show g.getD k 84 = g[k] by simp [List.getD, hi]]; exact h _ (List.getElem_mem hi)
      · rw [show g.getD k 84 = 84 by simp [List.getD, List.getElem?_eq_none hi]]; omega
    have e : (85 : Int) ^ (k + 1) = 85 ^ k * 85 := Int.pow_succ 85 k
    rw [vK]
    omega
theorem vK_le (g : List Int) (h : ∀ d ∈ g, 0 ≤ d ∧ d ≤ 84) (k : Nat) (hk : k ≤ 5) : 0 ≤ vK g k ∧ vK g k ≤ 4437053124 := by
  have h1 := vK_bd g h k hk
  have h2 : (85 : Int) ^ k ≤ 4437053125 := by
    match k, hk with
    | 0, _ => decide
    | 1, _ => decide
    | 2, _ => decide
    | 3, _ => decide
    | 4, _ => decide
    | 5, _ => decide
  omega
theorem by4_take (x : Int) (k : Nat) (h : k < 4) : (by4 x).take (k + 1) = (by4 x).take k ++ [(by4 x).getD k 0] := by
  match k, h with
  | 0, _ => rfl
  | 1, _ => rfl
  | 2, _ => rfl
  | 3, _ => rfl
theorem by4_rng (x : Int) : ∀ z ∈ by4 x, 0 ≤ z ∧ z < 256 := fun z hz => by
  simp [by4] at hz
  omega
/-- What a group leaves of a sink. -/
def GrpEnd (M : Nat) (g out out' : List Int) (b' : Int) : Prop := (b' = 0 ∧ grpR M g out = (out', 0)) ∨ (¬ b' = 0 ∧ grpR M g out = ([], b') ∧ out'.length ≤ 100000000)
/-- What k bytes leave of a sink. -/
def PutK (M : Nat) (ys out : List Int) (k : Nat) (out' : List Int) (b' : Int) : Prop := (b' = 0 ∧ out' = out ++ ys.take k ∧ out.length + k ≤ M) ∨ (b' = 7 ∧ M < out.length + k ∧ out'.length ≤ out.length + k)
theorem PutK.step {M : Nat} {ys out out' : List Int} {k : Nat} {b' : Int} (h : PutK M ys out k out' b') (z : Int) (hz : ys.take (k + 1) = ys.take k ++ [z]) (hk : (ys.take k).length = k) : PutK M ys out (k + 1) (skO M out' b' z) (skE M out' b') := by
  rcases h with ⟨rfl, rfl, h3⟩ | ⟨rfl, h2, h3⟩
  · unfold skO skE
    have hl : (out ++ ys.take k).length = out.length + k := by rw [List.length_append, hk]
    by_cases hlt : out.length + k < M
    · rw [if_pos ⟨rfl, by omega⟩, if_neg (by omega)]
      exact .inl ⟨rfl, by rw [hz, List.append_assoc], by omega⟩
    · rw [if_neg (by omega), if_pos ⟨rfl, by omega⟩]
      exact .inr ⟨rfl, by omega, by omega⟩
  · unfold skO skE
    rw [if_neg (by omega), if_neg (by omega)]
    exact .inr ⟨rfl, by omega, by omega⟩

set_option maxHeartbeats 2000000 in
theorem skgroup (base ks M n c B : Nat) (A : Option Addr) (v : Value) (g out : List Int) (w : World) (h : Snk w base ks v out M 0) (hg : NumI w B A n c g) (hB : B ≤ w.heap.size) (hn2 : 2 ≤ n) (hn5 : n ≤ 5) (hd : ∀ d ∈ g, 0 ≤ d ∧ d ≤ 84) (hm : out.length ≤ 1000000) (hlm : out.length ≤ M) :
    Calls Try.prog 33 #[.pointer (some ⟨ks, 0, none⟩), .slice A n c] w fun r w' => r = .returned (.tuple #[]) ∧ ∃ v' out' b', Snk w' base ks v' out' M b' ∧ GrpEnd M g out out' b' ∧ Below base w w' := by
  have H := Lib.hid h
  have HG := Lib.hid hg
  have HD := Lib.hid hd
  have HGL := Lib.hid hg.len
  clear h hg hd
  go_enter Try.func33, Try.ntmps33
  go_wp2_with fail
  go_loop [5, 6, 7] (fun xv kv dv => ∃ k : Nat, k ≤ 5 ∧ kv = .int .i64 k ∧ xv = .int .u64 (vK g k)) (fun _ kv _ => 5 - (intOf kv).toNat)
  case atStart => exact ⟨0, by omega, rfl, rfl⟩
  case round =>
    obtain ⟨k, hk, rfl, rfl⟩ := hrel
    have hb := vK_le g HD.out k hk
    by_cases hlt : k < 5
    · have hb2 := vK_le g HD.out (k + 1) (by omega)
      by_cases hkn : k < n
      · obtain ⟨b, o, rfl, _, hc⟩ := HG.out.cell (by omega)
        have ck := hc k hkn
        have hge : g.getD k 0 = g.getD k 84 := by simp [List.getD, HGL.out, hkn]
        have hdb : 0 ≤ g.getD k 84 ∧ g.getD k 84 ≤ 84 := by
          rw [show g.getD k 84 = g[k]'(by rw [HGL.out]; exact hkn) by simp [List.getD, HGL.out, hkn]]
          exact HD.out _ (List.getElem_mem _)
        rw [hge] at ck
        rw [vK] at hb2
        have HV : Hid (vK g (k + 1) = vK g k * 85 + g.getD k 84) := Lib.hid rfl
        obtain ⟨d, hdd⟩ : ∃ d, g.getD k 84 = d := ⟨_, rfl⟩
        obtain ⟨x, hx⟩ : ∃ x, vK g k = x := ⟨_, rfl⟩
        rw [hdd] at ck hb2 HV hdb
        rw [hx] at hb hb2 HV ⊢
        obtain ⟨d0, d1⟩ := hdb
        obtain ⟨x0, x1⟩ := hb
        obtain ⟨y0, y1⟩ := hb2
        have hki : (k : Int) < 5 := by omega
        clear hc hge hdd hx
        go_wp2
        go_round
        case rel => exact ⟨k + 1, by omega, by go_num, by rw [HV.out]⟩
        case measure => simp [intOf]; omega
      · have HV : Hid (vK g (k + 1) = vK g k * 85 + 84) := Lib.hid (by rw [vK, show g.getD k 84 = 84 by simp [List.getD, List.getElem?_eq_none (show g.length ≤ k by rw [HGL.out]; omega)]])
        rw [HV.out] at hb2
        obtain ⟨x, hx⟩ : ∃ x, vK g k = x := ⟨_, rfl⟩
        rw [hx] at hb hb2 HV ⊢
        obtain ⟨x0, x1⟩ := hb
        obtain ⟨y0, y1⟩ := hb2
        have hki : (k : Int) < 5 := by omega
        clear hx
        go_wp2
        go_round
        case rel => exact ⟨k + 1, by omega, by go_num, by rw [HV.out]⟩
        case measure => simp [intOf]; omega
    · obtain rfl : k = 5 := by omega
      have hve := vK5 g
      obtain ⟨x, hx⟩ : ∃ x, v85 g = x := ⟨_, rfl⟩
      rw [hve] at hb ⊢
      rw [hx] at hb ⊢
      have HX := Lib.hid hx
      obtain ⟨x0, x1⟩ := hb
      clear hve hx
      by_cases hgt : 4294967295 < x
      · have HF := Lib.hid (skfail base ks M 0 4 v out w H.out)
        go_wp2_with (go_at_call 32; refine HF.out.mono ?_; (rintro r w2 ⟨rfl, hs2, hb2⟩); have HS2 := Lib.hid hs2; have HB2 := Lib.hid hb2; clear hs2 hb2)
        (try simp only [Exit.inBlock, Exit.then])
        refine ⟨rfl, _, results_none rfl _ _ _, ?_⟩
        exact ⟨rfl, v, out, 4, HS2.out, .inr ⟨by decide, by unfold grpR; rw [HX.out, if_pos hgt], by omega⟩, HB2.out⟩
      · have hgt2 : x ≤ 4294967295 := by omega
        have HG2 : Hid (¬ 4294967295 < x) := Lib.hid hgt
        clear hgt
        go_wp2_with fail
        go_loopw [8] (fun kv wr => ∃ (k : Nat) (u : Value) (out' : List Int) (b' : Int), k + 1 ≤ n ∧ kv = .int .i64 k ∧ Hid (Snk wr base ks u out' M b') ∧ Hid (PutK M (by4 x) out k out' b') ∧ Hid (Below base w wr)) (fun kv _ => n - (intOf kv).toNat)
        case atStart => exact ⟨0, v, out, 0, by omega, rfl, H, Lib.hid (.inl ⟨rfl, by simp, by simpa using hlm⟩), Lib.hid (Below.refl _ _)⟩
        case round =>
          obtain ⟨k, u, out', b', hkn, rfl, HS, HK, HBE⟩ := hrel
          by_cases hlt2 : k + 1 < n
          · have hol : out'.length ≤ 100000000 := by
              rcases HK.out with ⟨_, rfl, _⟩ | ⟨_, _, h3⟩
              · rw [List.length_append, List.length_take]; omega
              · omega
            have HP := Lib.hid (fun z (hz : 0 ≤ z ∧ z < 256) => skput base ks M b' z u out' wr HS.out hz hol)
            have hk4 : k = 0 ∨ k = 1 ∨ k = 2 ∨ k = 3 := by omega
            clear hol
            rcases hk4 with rfl | rfl | rfl | rfl
            all_goals
              go_wp2_with (go_at_call 30; refine (HP.out _ (by omega)).mono ?_; (rintro r w2 ⟨rfl, u2, hs2, hb2⟩); have HS2 := Lib.hid hs2; have HB2 := Lib.hid hb2; clear hs2 hb2)
              go_roundw
              case rel => exact ⟨_, u2, _, _, hlt2, by go_num, HS2, Lib.hid (HK.out.step _ (by rw [by4_take x _ (by omega)]; simp [by4]; try omega) (by simp [by4])), Lib.hid (HBE.out.trans HB2.out)⟩
              case measure => simp [intOf]; try omega
          · have hk1 : k + 1 = n := by omega
            have hlt3 : ¬ (k : Int) < (n : Int) - 1 := by omega
            have HK1 := Lib.hid hk1
            clear hlt2 hk1
            go_wp2_with fail
            (try simp only [Exit.inBlock, Exit.then])
            refine ⟨rfl, _, results_none rfl _ _ _, ?_⟩
            refine ⟨rfl, u, out', b', HS.out, ?_, HBE.out⟩
            have hg1 : g.length - 1 = k := by have := HK1.out; have := HGL.out; omega
            unfold GrpEnd grpR
            rw [HX.out, if_neg (by have := HG2.out; omega), hg1]
            rcases HK.out with ⟨rfl, rfl, h3⟩ | ⟨rfl, h2, h3⟩
            · exact .inl ⟨rfl, by rw [if_neg (by omega)]⟩
            · exact .inr ⟨by decide, by rw [if_pos h2], by omega⟩
end Go.Proofs.Ytnonldlddgankaa
