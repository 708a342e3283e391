/- Chapter 8, the project's own writer: its state, free, code, begin, longest. -/
import Derived.Test.YtpnnejedfccckaaWd8
import Derived.Test.YtpnnejedfccckaaTr8
import Derived.Test.YtpnnejedfccckaaPp8
import Derived.Test.YtpnnejedfccckaaEn8
namespace Go.Proofs.Ytpnnejedfccckaa
open Go.RowKit
set_option linter.unusedVariables false
set_option maxRecDepth 100000

section
variable {w w' : World} {g : Nat} {T : TypeId} {XT : List Value} {bs : List Nat} {L : List Int}
theorem PW.cX (h : PW w g T XT bs L) (i : Nat) : w.cell? ⟨g, 260 + i, none⟩ = XT[i]? := by
  obtain ⟨⟨p, part, h1⟩, h2⟩ := h
  exact h1.cX i
theorem PW.fr (h : PW w g T XT bs L) (i : Nat) : w.frozen? ⟨g, i, none⟩ = false := by
  obtain ⟨⟨p, part, h1⟩, h2⟩ := h
  exact h1.fr i
theorem PW.setX (h : PW w g T XT bs L) (i : Nat) (v : Value) : PW (w.setCell ⟨g, 260 + i, none⟩ v) g T (XT.set i v) bs L := by
  obtain ⟨⟨p, part, h1⟩, h2⟩ := h
  exact ⟨⟨p, part, h1.setX i v⟩, h2⟩
end
/-- The writer: its block, its table's block B, what it wrote, how many it told. -/
structure WS (w0 w : World) (g B : Nat) (bs : List Nat) (L : List Int) (n : Nat) (F : Nat → Int → Option Nat) (told : Nat) : Prop where
  row : PW w g 51 [.map (some B), .int .i64 told] bs L
  tab : MapF w B n F
  ne : B ≠ g
  off : ∀ b, b ∈ bs → b ≠ B ∧ w0.heap.size ≤ b
  gb : w0.heap.size ≤ g ∧ w0.heap.size ≤ B
  low : Below w0.heap.size w0 w
section
variable {w0 w w' : World} {g B n told : Nat} {bs bs' : List Nat} {L L' : List Int} {F F' : Nat → Int → Option Nat}
theorem WS.drewN (h : WS w0 w g B bs L n F told) (k : Nat) : WS w0 (w.drewN k) g B bs L n F told := ⟨h.row.drewN k, h.tab.drewN k, h.ne, h.off, h.gb, below_drewN h.low k⟩
theorem WS.c0 (h : WS w0 w g B bs L n F told) : w.cell? ⟨g, 260, none⟩ = some (.map (some B)) := h.row.cX 0
theorem WS.c1 (h : WS w0 w g B bs L n F told) : w.cell? ⟨g, 261, none⟩ = some (.int .i64 told) := h.row.cX 1
theorem Only.lowW (h : Only g w w') (hg : w0.heap.size ≤ g) (hb : Below w0.heap.size w0 w) : Below w0.heap.size w0 w' :=
  ⟨h.os.trans hb.os, h.tape.trans hb.tape, h.output.trans hb.output, Nat.le_trans hb.size h.size, fun i hi => (h.block i (Nat.lt_of_lt_of_le hi hb.size) (by omega)).trans (hb.block i hi)⟩
/-- The row alone went on. -/
theorem WS.wrote (h : WS w0 w g B bs L n F told) (hr : PW w' g 51 [.map (some B), .int .i64 told] bs' L') (ho : Only g w w') (hb : ∀ b, b ∈ bs' → b ∈ bs ∨ w.heap.size ≤ b) : WS w0 w' g B bs' L' n F told :=
  ⟨hr, h.tab.keep (ho.block B h.tab.lt h.ne), h.ne, fun b hb' => by
    rcases hb b hb' with h1 | h1
    · exact h.off b h1
    · have := h.tab.lt; have := h.low.size; omega, h.gb, ho.lowW h.gb.1 h.low⟩
/-- The table alone went on. -/
theorem WS.tabbed {m : Nat} (h : WS w0 w g B bs L n F told) (ht : MapF w' B m F') (ho : Only B w w') : WS w0 w' g B bs L m F' told :=
  ⟨h.row.keep ho.size (fun i hi => by
    rcases hi with rfl | hi
    · exact ho.block _ h.row.lt (fun e => h.ne e.symm)
    · exact ho.block _ (h.row.ne i hi).2 (h.off i hi).1), ht, h.ne, h.off, h.gb, ho.lowW h.gb.2 h.low⟩
theorem WS.told_ (h : WS w0 w g B bs L n F told) (t : Nat) (z : Int) (hz : z = t) : WS w0 (w.setCell ⟨g, 261, none⟩ (.int .i64 z)) g B bs L n F t := by
  subst hz
  have ho : Only g w (w.setCell ⟨g, 261, none⟩ (.int .i64 (t : Int))) := (Only.refl g w).set_ _ _
  exact ⟨h.row.setX 1 (.int .i64 t), h.tab.keep (ho.block B h.tab.lt h.ne), h.ne, h.off, h.gb, ho.lowW h.gb.1 h.low⟩
end
def frS (told : Nat) : Nat := 258 + (told - 1)
theorem freeC (w0 : World) (g B n told : Nat) (bs : List Nat) (L : List Int) (F : Nat → Int → Option Nat) (w : World) (h : WS w0 w g B bs L n F told) (ht : told ≤ 100000) :
    Calls Try.prog 32 #[.pointer (some ⟨g, 0, none⟩)] w fun r w' => r = .returned (.int .i64 (frS told)) ∧ w = w' := by
  have c1 := h.c1
  have e1 : max ((told : Int) - 1) 0 = ((told - 1 : Nat) : Int) := by omega
  have w1 : IntKind.i64.wrap ((told : Int) - 1) = (told : Int) - 1 := IntWalk.i64_in _ (by omega)
  have e2 : (258 : Int) + ((told - 1 : Nat) : Int) = (frS told : Int) := by unfold frS; omega
  have w2 : IntKind.i64.wrap ((258 : Int) + ((told - 1 : Nat) : Int)) = (frS told : Int) := by rw [e2]; exact IntWalk.i64_in _ (by unfold frS; omega)
  obtain ⟨K, hK⟩ : ∃ K, told - 1 = K := ⟨_, rfl⟩
  obtain ⟨R, hR⟩ : ∃ R, frS told = R := ⟨_, rfl⟩
  rw [hK] at e1 e2 w2
  rw [hR] at e2 w2
  have hb : K ≤ 100000 ∧ R ≤ 200000 := by unfold frS at hR; omega
  have HR := Lib.hid hR
  clear hK hR h
  go_enter Try.func32, Try.ntmps32
  go_wp2_with fail
  go_ret
  rw [HR.out]
  exact ⟨rfl, rfl⟩
theorem put_in8 (g : Nat) (T : TypeId) (XT : List Value) (bs : List Nat) (L : List Int) (n : Int) (k : Nat) (w : World) (h : PW w g T XT bs L) (hL : L.length ≤ 700000000) (hk : k ≤ 16) (n0 : -9223372036854775808 ≤ n) (n1 : n ≤ 9223372036854775807) (W : Int) (hW : W = k) :
    Calls Try.prog 33 #[.pointer (some ⟨g, 0, none⟩), .int .i64 n, .int .i64 W] w fun r w' => r = .returned (.tuple #[]) ∧ ∃ bs', PW w' g T XT bs' (L ++ lowb n k) ∧ Only g w w' ∧ ∀ b, b ∈ bs' → b ∈ bs ∨ w.heap.size ≤ b := by
  subst hW
  have := pputC g T XT bs L n k w h hL n0 n1
  rw [putB_in L n k hk] at this
  exact this
set_option maxHeartbeats 1000000 in
theorem codeW (w0 : World) (g B n told x : Nat) (bs : List Nat) (L : List Int) (F : Nat → Int → Option Nat) (w : World) (h : WS w0 w g B bs L n F told) (ht : told ≤ 3839) (hx : x < 4096) (hL : L.length ≤ 600000000) :
    Calls Try.prog 18 #[.pointer (some ⟨g, 0, none⟩), .int .i64 x] w fun r w' => r = .returned (.tuple #[]) ∧ ∃ bs', WS w0 w' g B bs' (L ++ hiB x (wdZ (frS told))) n F told := by
  have hfr : 258 ≤ frS told ∧ frS told ≤ 4096 := by unfold frS; omega
  have HFR := Lib.hid (freeC w0 g B n told bs L F w h (by omega))
  have hwd := wdZ_bd (frS told)
  have HWD := Lib.hid (fun W => pwidthC (frS told) hfr.1 hfr.2 W)
  obtain ⟨R, hR⟩ : ∃ R, rev16S x = R := ⟨_, rfl⟩
  have HREV := Lib.hid (fun W => rev16C (x : Int) R (by omega) (by omega) hR W)
  have hrb := rev16_bd (x : Int) (by omega) (by omega)
  have hrc := rev_code (x : Int) (by omega) (by omega) (wdZ (frS told)) (by omega)
  rw [hR] at hrb hrc
  have HH := Lib.hid h
  have hwn : IntKind.u16.wrap (x : Int) = x := by rw [IntKind.wrap_u16]; omega
  obtain ⟨WD, hWD⟩ : ∃ WD, wdZ (frS told) = WD := ⟨_, rfl⟩
  obtain ⟨FR, hFR⟩ : ∃ FR, frS told = FR := ⟨_, rfl⟩
  rw [hWD] at hwd hrc HWD ⊢
  rw [hFR] at HFR HWD
  clear hWD hFR hfr hR h
  have hxx : (x : Int) < 4096 := by omega
  obtain rfl | rfl | rfl | rfl : WD = 9 ∨ WD = 10 ∨ WD = 11 ∨ WD = 12 := by omega
  ·
    simp only [Nat.reduceSub, Int.reducePow] at hrc
    rw [show ((9 : Nat) : Int) = 9 from rfl] at HWD
    obtain ⟨V, hV⟩ : ∃ V, R / 128 = V := ⟨_, rfl⟩
    have hv : 0 ≤ V ∧ V ≤ 65535 := by omega
    rw [hV] at hrc
    have hp := fun j => put_in8 g 51 _ bs L V 9 (w.drewN j) (HH.out.row.drewN j) (by omega) (by omega) (by omega) (by omega) 9 rfl
    rw [hrc] at hp
    have HP := Lib.hid hp
    have hwV : IntKind.i64.wrap V = V := IntWalk.i64_in _ (by omega)
    have hw16 : IntKind.i64.wrap 7 = 7 := by decide
    clear hp hrc
    go_enter Try.func18, Try.ntmps18
    go_upto_region 1 with (first
      | (go_at_call 32; refine HFR.out.mono ?_; (rintro r w1 ⟨rfl, rfl⟩))
      | (go_at_call 31; refine (HWD.out _).mono ?_; (rintro r w1 ⟨rfl, rfl⟩)))
    go_region_with (first
      | (go_at_call 34; refine (HREV.out _).mono ?_; (rintro r w1 ⟨rfl, j, rfl⟩))
      | (go_at_call 33; refine (HP.out _).mono ?_; (rintro r w3 ⟨rfl, bs3, hp3, ho3, hb3⟩); have HW3 := Lib.hid hp3; have HO3 := Lib.hid (((Only.refl g w).drewN _).trans ho3); have HB3 := Lib.hid hb3; clear hp3 ho3 hb3))
    all_goals
      go_wp2_with fail
      (try simp only [Exit.inBlock, Exit.then])
      refine ⟨rfl, _, results_none rfl _ _ _, ?_⟩
      exact ⟨rfl, bs3, HH.out.wrote HW3.out HO3.out HB3.out⟩
  ·
    simp only [Nat.reduceSub, Int.reducePow] at hrc
    rw [show ((10 : Nat) : Int) = 10 from rfl] at HWD
    obtain ⟨V, hV⟩ : ∃ V, R / 64 = V := ⟨_, rfl⟩
    have hv : 0 ≤ V ∧ V ≤ 65535 := by omega
    rw [hV] at hrc
    have hp := fun j => put_in8 g 51 _ bs L V 10 (w.drewN j) (HH.out.row.drewN j) (by omega) (by omega) (by omega) (by omega) 10 rfl
    rw [hrc] at hp
    have HP := Lib.hid hp
    have hwV : IntKind.i64.wrap V = V := IntWalk.i64_in _ (by omega)
    have hw16 : IntKind.i64.wrap 6 = 6 := by decide
    clear hp hrc
    go_enter Try.func18, Try.ntmps18
    go_upto_region 1 with (first
      | (go_at_call 32; refine HFR.out.mono ?_; (rintro r w1 ⟨rfl, rfl⟩))
      | (go_at_call 31; refine (HWD.out _).mono ?_; (rintro r w1 ⟨rfl, rfl⟩)))
    go_region_with (first
      | (go_at_call 34; refine (HREV.out _).mono ?_; (rintro r w1 ⟨rfl, j, rfl⟩))
      | (go_at_call 33; refine (HP.out _).mono ?_; (rintro r w3 ⟨rfl, bs3, hp3, ho3, hb3⟩); have HW3 := Lib.hid hp3; have HO3 := Lib.hid (((Only.refl g w).drewN _).trans ho3); have HB3 := Lib.hid hb3; clear hp3 ho3 hb3))
    all_goals
      go_wp2_with fail
      (try simp only [Exit.inBlock, Exit.then])
      refine ⟨rfl, _, results_none rfl _ _ _, ?_⟩
      exact ⟨rfl, bs3, HH.out.wrote HW3.out HO3.out HB3.out⟩
  ·
    simp only [Nat.reduceSub, Int.reducePow] at hrc
    rw [show ((11 : Nat) : Int) = 11 from rfl] at HWD
    obtain ⟨V, hV⟩ : ∃ V, R / 32 = V := ⟨_, rfl⟩
    have hv : 0 ≤ V ∧ V ≤ 65535 := by omega
    rw [hV] at hrc
    have hp := fun j => put_in8 g 51 _ bs L V 11 (w.drewN j) (HH.out.row.drewN j) (by omega) (by omega) (by omega) (by omega) 11 rfl
    rw [hrc] at hp
    have HP := Lib.hid hp
    have hwV : IntKind.i64.wrap V = V := IntWalk.i64_in _ (by omega)
    have hw16 : IntKind.i64.wrap 5 = 5 := by decide
    clear hp hrc
    go_enter Try.func18, Try.ntmps18
    go_upto_region 1 with (first
      | (go_at_call 32; refine HFR.out.mono ?_; (rintro r w1 ⟨rfl, rfl⟩))
      | (go_at_call 31; refine (HWD.out _).mono ?_; (rintro r w1 ⟨rfl, rfl⟩)))
    go_region_with (first
      | (go_at_call 34; refine (HREV.out _).mono ?_; (rintro r w1 ⟨rfl, j, rfl⟩))
      | (go_at_call 33; refine (HP.out _).mono ?_; (rintro r w3 ⟨rfl, bs3, hp3, ho3, hb3⟩); have HW3 := Lib.hid hp3; have HO3 := Lib.hid (((Only.refl g w).drewN _).trans ho3); have HB3 := Lib.hid hb3; clear hp3 ho3 hb3))
    all_goals
      go_wp2_with fail
      (try simp only [Exit.inBlock, Exit.then])
      refine ⟨rfl, _, results_none rfl _ _ _, ?_⟩
      exact ⟨rfl, bs3, HH.out.wrote HW3.out HO3.out HB3.out⟩
  ·
    simp only [Nat.reduceSub, Int.reducePow] at hrc
    rw [show ((12 : Nat) : Int) = 12 from rfl] at HWD
    obtain ⟨V, hV⟩ : ∃ V, R / 16 = V := ⟨_, rfl⟩
    have hv : 0 ≤ V ∧ V ≤ 65535 := by omega
    rw [hV] at hrc
    have hp := fun j => put_in8 g 51 _ bs L V 12 (w.drewN j) (HH.out.row.drewN j) (by omega) (by omega) (by omega) (by omega) 12 rfl
    rw [hrc] at hp
    have HP := Lib.hid hp
    have hwV : IntKind.i64.wrap V = V := IntWalk.i64_in _ (by omega)
    have hw16 : IntKind.i64.wrap 4 = 4 := by decide
    clear hp hrc
    go_enter Try.func18, Try.ntmps18
    go_upto_region 1 with (first
      | (go_at_call 32; refine HFR.out.mono ?_; (rintro r w1 ⟨rfl, rfl⟩))
      | (go_at_call 31; refine (HWD.out _).mono ?_; (rintro r w1 ⟨rfl, rfl⟩)))
    go_region_with (first
      | (go_at_call 34; refine (HREV.out _).mono ?_; (rintro r w1 ⟨rfl, j, rfl⟩))
      | (go_at_call 33; refine (HP.out _).mono ?_; (rintro r w3 ⟨rfl, bs3, hp3, ho3, hb3⟩); have HW3 := Lib.hid hp3; have HO3 := Lib.hid (((Only.refl g w).drewN _).trans ho3); have HB3 := Lib.hid hb3; clear hp3 ho3 hb3))
    all_goals
      go_wp2_with fail
      (try simp only [Exit.inBlock, Exit.then])
      refine ⟨rfl, _, results_none rfl _ _ _, ?_⟩
      exact ⟨rfl, bs3, HH.out.wrote HW3.out HO3.out HB3.out⟩
end Go.Proofs.Ytpnnejedfccckaa
