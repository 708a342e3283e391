/- Chapter 11, the document's own lexer: names. -/
import Derived.Test.YtojbhckgegoldaaRn11
import Derived.Test.YtojbhckgegoldaaLt11
namespace Go.Proofs.Ytojbhckgegoldaa
open Go.RowKit
set_option linter.unusedVariables false
set_option maxRecDepth 100000

/-- A sign looked at, a row beside. -/
theorem rdk0 {w W : World} {m n c q B : Nat} {T : TypeId} {X : List Value} {A : Option Addr} {v : Value} {out zs : List Int} (x : DS w W m T X A n c q v out) (hb : Byt w B A n c zs) (hB : B ≤ m) (hn : n ≤ 1000000) (hq : q ≤ 1500000) :
    Calls Try.prog 37 #[.pointer (some ⟨m, 0, none⟩), .int .i64 0] W fun e w' => e = .returned (.int .i64 (peekZ zs (q : Int))) ∧ DS w w' m T X A n c q v out :=
  (rpeek0 m n c q B T X A zs W x.ld (hb.only x.ol hB (Nat.le_of_lt x.lm)) hn (by omega)).mono fun _ _ ⟨h1, k, h2⟩ => ⟨h1, by rw [h2]; exact x.drewN k⟩
theorem rdk1 {w W : World} {m n c q B : Nat} {T : TypeId} {X : List Value} {A : Option Addr} {v : Value} {out zs : List Int} (x : DS w W m T X A n c q v out) (hb : Byt w B A n c zs) (hB : B ≤ m) (hn : n ≤ 1000000) (hq : q ≤ 1500000) :
    Calls Try.prog 37 #[.pointer (some ⟨m, 0, none⟩), .int .i64 1] W fun e w' => e = .returned (.int .i64 (peekZ zs ((q + 1 : Nat) : Int))) ∧ DS w w' m T X A n c q v out :=
  (rpeek1 m n c q B T X A zs W x.ld (hb.only x.ol hB (Nat.le_of_lt x.lm)) hn (by omega)).mono fun _ _ ⟨h1, k, h2⟩ => ⟨h1, by rw [h2]; exact x.drewN k⟩
/-- What a reader of bytes leaves. -/
def DnP (m : Nat) (T : TypeId) (X : List Value) (A : Option Addr) (n c : Nat) (R : Int × List Int × Nat) (w : World) (r : Ending) (w' : World) : Prop :=
  ∃ (A' : Option Addr) (m' c' q : Nat), r = .returned (.tuple #[.slice A' m' c', .int .i64 R.1]) ∧ LD w' m T X A n c q ∧ Only m w w' ∧ (R.1 = 0 → q = R.2.2 ∧ Mine w' w.heap.size (.slice A' m' c') m' R.2.1)
theorem DnP.bad {w w' : World} {m n c q : Nat} {T : TypeId} {X : List Value} {A : Option Addr} {v : Value} {out : List Int} {R : Int × List Int × Nat} (x : DS w w' m T X A n c q v out) (e : Int) (he : R.1 = e) (h0 : e ≠ 0) : DnP m T X A n c R w (.returned (.tuple #[.slice none 0 0, .int .i64 e])) w' := by
  subst he
  exact ⟨none, 0, 0, q, rfl, x.ld, x.ol, fun h => absurd h h0⟩
theorem DnP.good {w w' : World} {m n c q c' : Nat} {T : TypeId} {X : List Value} {A A' : Option Addr} {out : List Int} {R : Int × List Int × Nat} (x : DS w w' m T X A n c q (.slice A' out.length c') out) (he : R = (0, out, q)) : DnP m T X A n c R w (.returned (.tuple #[.slice A' out.length c', .int .i64 0])) w' := by
  subst he
  exact ⟨A', out.length, c', q, rfl, x.ld, x.ol, fun _ => ⟨rfl, x.row⟩⟩

set_option maxHeartbeats 8000000 in
theorem rnameC (m n c p B : Nat) (T : TypeId) (X : List Value) (A : Option Addr) (zs : List Int) (w : World) (h : LD w m T X A n c p) (hb : Byt w B A n c zs) (hB : B ≤ m) (hn : n ≤ 1000000) (hp : p ≤ n) :
    Calls Try.prog 50 #[.pointer (some ⟨m, 0, none⟩)] w (DnP m T X A n c (nameF zs (zs.length + 1) p []) w) := by
  have HD0 := Lib.hid (DS.start h)
  have HB := Lib.hid hb
  have HL := Lib.hid hb.len
  have HPP := Lib.hid (fun q (hq : q ≤ n + 5) W v out (x : DS w W m T X A n c q v out) => rdk0 x hb hB hn (by omega))
  have HPQ := Lib.hid (fun q (hq : q ≤ n + 5) W v out (x : DS w W m T X A n c q v out) => rdk1 x hb hB hn (by omega))
  obtain ⟨R, hR⟩ : ∃ R, nameF zs (zs.length + 1) p [] = R := ⟨_, rfl⟩
  rw [hR]
  have HR := Lib.hid hR
  clear h hb hR
  go_enter Try.func50, Try.ntmps50
  go_wp2_with fail
  go_loopg [4, 5, 6, 7] (n + 1) (fun gk s4 s5 s6 s7 wr => ∃ (q : Nat) (out : List Int), Hid (DS w wr m T X A n c q s4 out) ∧ Hid (nameF zs gk q out = R) ∧ Hid (n < gk + q) ∧ Hid (q ≤ n) ∧ Hid (out.length ≤ 127))
  case atStart => exact ⟨p, [], HD0, Lib.hid (by rw [← HL.out]; exact HR.out), Lib.hid (by omega), Lib.hid hp, Lib.hid (by simp)⟩
  case round =>
    obtain ⟨q, out, HD, HF, HG, HQ, HOL⟩ := hrel
    have hgk : ∃ f, gk = f + 1 := ⟨gk - 1, by have := HQ.out; have := HG.out; omega⟩
    obtain ⟨f, rfl⟩ := hgk
    obtain ⟨A', c', rfl, _, _⟩ := HD.out.byt
    have HP0 := Lib.hid (HPP.out q (by have := HQ.out; omega))
    have HP1 := Lib.hid (HPP.out (q + 1) (by have := HQ.out; omega))
    have HP2 := Lib.hid (HPQ.out (q + 1) (by have := HQ.out; omega))
    have HST := Lib.hid (fun hg => nm_step zs n HL.out HB.out.rng f q out R HF.out hg)
    obtain ⟨y, hy⟩ : ∃ y, peekZ zs (q : Int) = y := ⟨_, rfl⟩
    rw [hy] at HP0
    have HY := Lib.hid hy
    have HRG := Lib.hid (fun W => rregC y W)
    have hqb : q ≤ 1000000 := by have := HQ.out; omega
    have w1 : IntKind.i64.wrap ((q : Int) + 1) = (q : Int) + 1 := IntWalk.i64_in _ (by omega)
    have w2 : IntKind.i64.wrap ((q : Int) + 1 + 2) = (q : Int) + 1 + 2 := IntWalk.i64_in _ (by omega)
    have HQ1 : Hid ((q : Int) + 1 = ((q + 1 : Nat) : Int)) := Lib.hid (by omega)
    have HQ3 : Hid ((q : Int) + 1 + 2 = ((q + 3 : Nat) : Int)) := Lib.hid (by omega)
    clear hy hqb
    rcases hg : regB y with _ | _
    · have HE : Hid (R = (0, out, q)) := Lib.hid (by rw [← HF.out, nameF, HY.out, if_pos hg])
      rw [hg] at HRG
      clear hg
      go_wp2_with (first
        | (go_at_call 37; (with_reducible refine (HP0.out _ _ _ (HD.out)).mono ?_); (rintro r wa ⟨rfl, hda⟩); (try dsimp only); have HD := Lib.hid hda; have c1 := hda.ld.c1; have cf := hda.ld.fr 1; clear hda)
        | (go_at_call 23; refine (HRG.out _).mono ?_; (rintro r w7 ⟨rfl, rfl⟩); (try dsimp only)))
      go_ret2
      exact DnP.good HD.out HE.out
    · rw [hg] at HRG
      have hst := HST.out (by rw [HY.out]; exact hg)
      have HQN := Lib.hid hst.1
      have hcs := hst.2
      unfold nmR at hcs
      rw [HY.out, nxP_in hst.1] at hcs
      have c1 := HD.out.ld.c1
      have cf := HD.out.ld.fr 1
      have hyz : ¬ y = 0 := fun e => by subst e; exact absurd hg (by decide)
      have hrb : 0 < y ∧ y < 256 := by
        have h1 := peekZ_bd zs HB.out.rng (q : Int)
        rw [HY.out] at h1
        unfold regB at hg
        simp at hg
        omega
      obtain ⟨y0, y1⟩ := hrb
      clear HST hst hg
      by_cases h35 : y = 35
      · rw [if_pos h35] at hcs
        subst h35
        obtain ⟨x2, hx2⟩ : ∃ x, peekZ zs ((q + 1 : Nat) : Int) = x := ⟨_, rfl⟩
        rw [hx2] at HP1
        obtain ⟨x3, hx3⟩ : ∃ x, peekZ zs ((q + 1 + 1 : Nat) : Int) = x := ⟨_, rfl⟩
        rw [hx3] at HP2
        rw [hx2] at hcs
        have HD2 := Lib.hid (fun W => rdigit x2 W)
        have HD3 := Lib.hid (fun W => rdigit x3 W)
        have hd2 := dgZ_bd x2
        have hd3 := dgZ_bd x3
        have hnx : 0 ≤ dgZ x2 → q + 1 < n := fun h0 => by
          have h1 := peekZ_lt zs (q + 1) (by
            rw [hx2]
            rcases Int.lt_or_le x2 0 with h | h
            · have h3 := peekZ_bd zs HB.out.rng ((q + 1 : Nat) : Int)
              rw [hx2] at h3
              have : x2 = -1 := by omega
              subst this
              exact absurd h0 (by decide)
            · exact h)
          have := HL.out
          omega
        have hfx : nameF zs (f + 1) q out = R := HF.out
        rw [nameF, if_neg (by rw [HY.out]; decide), if_pos HY.out, hx2, show ((q + 2 : Nat) : Int) = ((q + 1 + 1 : Nat) : Int) by omega, hx3] at hfx
        obtain ⟨d2, e2⟩ : ∃ x, dgZ x2 = x := ⟨_, rfl⟩
        obtain ⟨d3, e3⟩ : ∃ x, dgZ x3 = x := ⟨_, rfl⟩
        rw [e2] at hd2 HD2 hfx hnx
        rw [e3] at hd3 HD3 hfx
        obtain ⟨a0, a1⟩ := hd2
        obtain ⟨b0, b1⟩ := hd3
        have HFX := Lib.hid hfx
        have hn3 : 0 ≤ d3 → q + 1 + 1 < n := fun h0 => by
          have h1 := peekZ_lt zs (q + 1 + 1) (by
            rw [hx3]
            rcases Int.lt_or_le x3 0 with h | h
            · have h3 := peekZ_bd zs HB.out.rng ((q + 1 + 1 : Nat) : Int)
              rw [hx3] at h3
              have : x3 = -1 := by omega
              subst this
              rw [← e3] at h0
              exact absurd h0 (by decide)
            · exact h)
          have := HL.out
          omega
        have HN3 := Lib.hid hn3
        clear hcs hx2 hx3 e2 e3 hnx hfx hn3
        have ws : IntKind.i64.wrap (d2 + d3) = d2 + d3 := IntWalk.i64_in _ (by omega)
        by_cases g2 : d2 < 0
        · have HRE : Hid (R.1 = 4) := Lib.hid (by have h := HFX.out; rw [if_pos (.inl g2)] at h; rw [← h])
          go_wp2_with (first
            | (go_at_call 37; (with_reducible refine (HP0.out _ _ _ (HD.out)).mono ?_); (rintro r wa ⟨rfl, hda⟩); (try dsimp only); have HD := Lib.hid hda; have c1 := hda.ld.c1; have cf := hda.ld.fr 1; clear hda)
            | (go_at_call 23; refine (HRG.out _).mono ?_; (rintro r w7 ⟨rfl, rfl⟩); (try dsimp only))
            | (go_at_call 37; (with_reducible refine (HP1.out _ _ _ (HD.out.setI (q + 1) _ HQ1.out)).mono ?_); (rintro r wa ⟨rfl, hda⟩); (try dsimp only); have HD := Lib.hid hda; have c1 := hda.ld.c1; have cf := hda.ld.fr 1; clear hda)
            | (go_at_call 37; (with_reducible refine (HP2.out _ _ _ (HD.out)).mono ?_); (rintro r wa ⟨rfl, hda⟩); (try dsimp only); have HD := Lib.hid hda; have c1 := hda.ld.c1; have cf := hda.ld.fr 1; clear hda)
            | (go_at_call 67; (with_reducible refine (HD2.out _).mono ?_); (rintro r w7 ⟨rfl, rfl⟩); (try dsimp only))
            | (go_at_call 67; (with_reducible refine (HD3.out _).mono ?_); (rintro r w7 ⟨rfl, rfl⟩); (try dsimp only)))
          go_ret2
          exact DnP.bad HD.out 4 HRE.out (by decide)
        · have g2' : decide (d2 < 0) = false := decide_eq_false g2
          by_cases g3 : d3 < 0
          · have HRE : Hid (R.1 = 4) := Lib.hid (by have h := HFX.out; rw [if_pos (.inr (.inl g3))] at h; rw [← h])
            go_wp2_with (first
              | (go_at_call 37; (with_reducible refine (HP0.out _ _ _ (HD.out)).mono ?_); (rintro r wa ⟨rfl, hda⟩); (try dsimp only); have HD := Lib.hid hda; have c1 := hda.ld.c1; have cf := hda.ld.fr 1; clear hda)
              | (go_at_call 23; refine (HRG.out _).mono ?_; (rintro r w7 ⟨rfl, rfl⟩); (try dsimp only))
              | (go_at_call 37; (with_reducible refine (HP1.out _ _ _ (HD.out.setI (q + 1) _ HQ1.out)).mono ?_); (rintro r wa ⟨rfl, hda⟩); (try dsimp only); have HD := Lib.hid hda; have c1 := hda.ld.c1; have cf := hda.ld.fr 1; clear hda)
              | (go_at_call 37; (with_reducible refine (HP2.out _ _ _ (HD.out)).mono ?_); (rintro r wa ⟨rfl, hda⟩); (try dsimp only); have HD := Lib.hid hda; have c1 := hda.ld.c1; have cf := hda.ld.fr 1; clear hda)
              | (go_at_call 67; (with_reducible refine (HD2.out _).mono ?_); (rintro r w7 ⟨rfl, rfl⟩); (try dsimp only))
              | (go_at_call 67; (with_reducible refine (HD3.out _).mono ?_); (rintro r w7 ⟨rfl, rfl⟩); (try dsimp only)))
            go_ret2
            exact DnP.bad HD.out 4 HRE.out (by decide)
          · have g3' : decide (d3 < 0) = false := decide_eq_false g3
            by_cases g4 : d2 + d3 = 0
            · have g4' : (d2 + d3 == 0) = true := beq_iff_eq.2 g4
              have HRE : Hid (R.1 = 4) := Lib.hid (by have h := HFX.out; rw [if_pos (.inr (.inr g4))] at h; rw [← h])
              clear g4
              go_wp2_with (first
                | (go_at_call 37; (with_reducible refine (HP0.out _ _ _ (HD.out)).mono ?_); (rintro r wa ⟨rfl, hda⟩); (try dsimp only); have HD := Lib.hid hda; have c1 := hda.ld.c1; have cf := hda.ld.fr 1; clear hda)
                | (go_at_call 23; refine (HRG.out _).mono ?_; (rintro r w7 ⟨rfl, rfl⟩); (try dsimp only))
                | (go_at_call 37; (with_reducible refine (HP1.out _ _ _ (HD.out.setI (q + 1) _ HQ1.out)).mono ?_); (rintro r wa ⟨rfl, hda⟩); (try dsimp only); have HD := Lib.hid hda; have c1 := hda.ld.c1; have cf := hda.ld.fr 1; clear hda)
                | (go_at_call 37; (with_reducible refine (HP2.out _ _ _ (HD.out)).mono ?_); (rintro r wa ⟨rfl, hda⟩); (try dsimp only); have HD := Lib.hid hda; have c1 := hda.ld.c1; have cf := hda.ld.fr 1; clear hda)
                | (go_at_call 67; (with_reducible refine (HD2.out _).mono ?_); (rintro r w7 ⟨rfl, rfl⟩); (try dsimp only))
                | (go_at_call 67; (with_reducible refine (HD3.out _).mono ?_); (rintro r w7 ⟨rfl, rfl⟩); (try dsimp only)))
              go_ret2
              exact DnP.bad HD.out 4 HRE.out (by decide)
            · have g4' : (d2 + d3 == 0) = false := beq_eq_false_iff_ne.2 g4
              have hfx2 := HFX.out
              rw [if_neg (by rintro (h | h | h) <;> contradiction)] at hfx2
              have wm : IntKind.i64.wrap (d2 * 16) = d2 * 16 := IntWalk.i64_in _ (by omega)
              have wz : IntKind.i64.wrap (d2 * 16 + d3) = d2 * 16 + d3 := IntWalk.i64_in _ (by omega)
              have HN3' := Lib.hid (HN3.out (by omega))
              clear g4
              by_cases h127 : 127 ≤ out.length
              · have HRE : Hid (R.1 = 3) := Lib.hid (by rw [if_pos h127] at hfx2; rw [← hfx2])
                have hbig : decide ((out.length : Int) ≥ 127) = true := decide_eq_true (by omega)
                have hbig2 : (out.length : Int) ≥ 127 := by omega
                clear hfx2 h127
                go_wp2_with (first
                  | (go_at_call 37; (with_reducible refine (HP0.out _ _ _ (HD.out)).mono ?_); (rintro r wa ⟨rfl, hda⟩); (try dsimp only); have HD := Lib.hid hda; have c1 := hda.ld.c1; have cf := hda.ld.fr 1; clear hda)
                  | (go_at_call 23; refine (HRG.out _).mono ?_; (rintro r w7 ⟨rfl, rfl⟩); (try dsimp only))
                  | (go_at_call 37; (with_reducible refine (HP1.out _ _ _ (HD.out.setI (q + 1) _ HQ1.out)).mono ?_); (rintro r wa ⟨rfl, hda⟩); (try dsimp only); have HD := Lib.hid hda; have c1 := hda.ld.c1; have cf := hda.ld.fr 1; clear hda)
                  | (go_at_call 37; (with_reducible refine (HP2.out _ _ _ (HD.out)).mono ?_); (rintro r wa ⟨rfl, hda⟩); (try dsimp only); have HD := Lib.hid hda; have c1 := hda.ld.c1; have cf := hda.ld.fr 1; clear hda)
                  | (go_at_call 67; (with_reducible refine (HD2.out _).mono ?_); (rintro r w7 ⟨rfl, rfl⟩); (try dsimp only))
                  | (go_at_call 67; (with_reducible refine (HD3.out _).mono ?_); (rintro r w7 ⟨rfl, rfl⟩); (try dsimp only)))
                go_ret2
                exact DnP.bad (HD.out.setI (q + 3) _ HQ3.out) 3 HRE.out (by decide)
              · rw [if_neg h127] at hfx2
                have HF2 := Lib.hid hfx2
                have hbig : decide ((out.length : Int) ≥ 127) = false := decide_eq_false (by omega)
                have hbig2 : ¬ (out.length : Int) ≥ 127 := by omega
                have H127 := Lib.hid h127
                obtain ⟨z, hz⟩ : ∃ z, d2 * 16 + d3 = z := ⟨_, rfl⟩
                rw [hz] at wz HF2
                have hzb : 0 ≤ z ∧ z < 256 := by omega
                have HZB := Lib.hid hzb
                have wV : IntKind.u8.wrap z = z := IntWalk.u8_in _ (by omega)
                have wz2 : IntKind.i64.wrap (d2 * 16 + d3) = z := by rw [hz]; exact wz
                clear hfx2 h127 hzb wz hz
                go_upto_region 11 with (first
                  | (go_at_call 37; (with_reducible refine (HP0.out _ _ _ (HD.out)).mono ?_); (rintro r wa ⟨rfl, hda⟩); (try dsimp only); have HD := Lib.hid hda; have c1 := hda.ld.c1; have cf := hda.ld.fr 1; clear hda)
                  | (go_at_call 23; refine (HRG.out _).mono ?_; (rintro r w7 ⟨rfl, rfl⟩); (try dsimp only))
                  | (go_at_call 37; (with_reducible refine (HP1.out _ _ _ (HD.out.setI (q + 1) _ HQ1.out)).mono ?_); (rintro r wa ⟨rfl, hda⟩); (try dsimp only); have HD := Lib.hid hda; have c1 := hda.ld.c1; have cf := hda.ld.fr 1; clear hda)
                  | (go_at_call 37; (with_reducible refine (HP2.out _ _ _ (HD.out)).mono ?_); (rintro r wa ⟨rfl, hda⟩); (try dsimp only); have HD := Lib.hid hda; have c1 := hda.ld.c1; have cf := hda.ld.fr 1; clear hda)
                  | (go_at_call 67; (with_reducible refine (HD2.out _).mono ?_); (rintro r w7 ⟨rfl, rfl⟩); (try dsimp only))
                  | (go_at_call 67; (with_reducible refine (HD3.out _).mono ?_); (rintro r w7 ⟨rfl, rfl⟩); (try dsimp only)))
                have hd := HD.out.setI (q + 3) _ HQ3.out
                obtain ⟨wb, hwb⟩ : ∃ wb, wa.setCell ⟨m, 1, none⟩ (.int .i64 ((q : Int) + 1 + 2)) = wb := ⟨_, rfl⟩
                rw [hwb] at hd
                rw [hwb]
                have HD := Lib.hid hd
                clear hwb hd
                go_wp2_with (first
                  | (at_builtin; obtain ⟨v6, w6, hrun, hs6, A6, c6, rfl⟩ := HD.out.room z HZB.out (by have := HOL.out; omega); refine Lib.wpList_append_run_sl _ rfl (.tmp 55) (.tmp 58) 25 rfl _ _ rfl rfl hrun ?_; clear hrun; have HD6 := Lib.hid hs6; clear hs6))
                go_roundg f
                case rel => exact ⟨q + 3, _, HD6, HF2, Lib.hid (by have h1 := HG.out; omega), Lib.hid (by have := HN3'.out; omega), Lib.hid (by rw [List.length_append]; have := H127.out; simp; omega)⟩
                case measure => omega
      · rw [if_neg h35] at hcs
        have y35 : (y == 35) = false := beq_eq_false_iff_ne.2 h35
        have hfx : nameF zs (f + 1) q out = R := HF.out
        rcases hcs with ⟨h1, _⟩ | ⟨h1, _, _, _, hcs⟩
        · dsimp only at h1
          omega
        · dsimp only at hcs
          clear h1 hfx
          rcases hcs with ⟨h127, hR3⟩ | ⟨h127, hF⟩
          · have HRE := Lib.hid hR3
            have hbig : decide ((out.length : Int) ≥ 127) = true := decide_eq_true (by omega)
            have hbig2 : (out.length : Int) ≥ 127 := by omega
            clear hR3 h127
            go_wp2_with (first
              | (go_at_call 37; (with_reducible refine (HP0.out _ _ _ (HD.out)).mono ?_); (rintro r wa ⟨rfl, hda⟩); (try dsimp only); have HD := Lib.hid hda; have c1 := hda.ld.c1; have cf := hda.ld.fr 1; clear hda)
              | (go_at_call 23; refine (HRG.out _).mono ?_; (rintro r w7 ⟨rfl, rfl⟩); (try dsimp only)))
            go_ret2
            exact DnP.bad (HD.out.setI (q + 1) _ HQ1.out) 3 HRE.out (by decide)
          · have HF2 := Lib.hid hF
            have hbig : decide ((out.length : Int) ≥ 127) = false := decide_eq_false (by omega)
            have hbig2 : ¬ (out.length : Int) ≥ 127 := by omega
            have H127 := Lib.hid h127
            have HYB := Lib.hid (show 0 ≤ y ∧ y < 256 from ⟨by omega, y1⟩)
            have wV : IntKind.u8.wrap y = y := IntWalk.u8_in _ (by omega)
            clear hF h127
            go_upto_region 11 with (first
              | (go_at_call 37; (with_reducible refine (HP0.out _ _ _ (HD.out)).mono ?_); (rintro r wa ⟨rfl, hda⟩); (try dsimp only); have HD := Lib.hid hda; have c1 := hda.ld.c1; have cf := hda.ld.fr 1; clear hda)
              | (go_at_call 23; refine (HRG.out _).mono ?_; (rintro r w7 ⟨rfl, rfl⟩); (try dsimp only)))
            have hd := HD.out.setI (q + 1) _ HQ1.out
            obtain ⟨wb, hwb⟩ : ∃ wb, wa.setCell ⟨m, 1, none⟩ (.int .i64 ((q : Int) + 1)) = wb := ⟨_, rfl⟩
            rw [hwb] at hd
            rw [hwb]
            have HD := Lib.hid hd
            clear hwb hd
            go_wp2_with (first
              | (at_builtin; obtain ⟨v6, w6, hrun, hs6, A6, c6, rfl⟩ := HD.out.room y HYB.out (by have := HOL.out; omega); refine Lib.wpList_append_run_sl _ rfl (.tmp 55) (.tmp 58) 25 rfl _ _ rfl rfl hrun ?_; clear hrun; have HD6 := Lib.hid hs6; clear hs6))
            go_roundg f
            case rel => exact ⟨q + 1, _, HD6, HF2, Lib.hid (by have h1 := HG.out; omega), Lib.hid (by have := HQN.out; omega), Lib.hid (by rw [List.length_append]; have := H127.out; simp; omega)⟩
            case measure => omega
end Go.Proofs.Ytojbhckgegoldaa
