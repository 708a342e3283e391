/- The document's own flow (chapter 4): symbol of a reader that failed, length, distance. -/
import Derived.Test.YtginbilakdenmaaRef4Flow
namespace Go.Proofs.Ytginbilakdenmaa
open Go.RowKit
set_option linter.unusedVariables false
set_option maxRecDepth 100000

set_option maxRecDepth 100000 in
theorem symC (g n c p B nl cl nc cc : Nat) (e : Int) (A Al Ac : Option Addr) (zs l cs : List Int) (w : World) (h : BS w g A n c p e) (hb : Byt w B A n c zs) (hB : B ≤ g) (hn : n ≤ 100000000) (hp : p ≤ 8 * n)
    (hl : ∀ W, Only g w W → Nums W W.heap.size Al nl cl l) (hc : ∀ W, Only g w W → Nums W W.heap.size Ac nc cc cs) (hnl : nl ≤ 1000) (hcl : nl ≤ nc) (s : Int) (p' : Nat) (e' : Int) (hs : symS zs l cs p e = (s, p', e')) :
    Calls Try.prog 56 #[.pointer (some ⟨g, 0, none⟩), .slice Al nl cl, .slice Ac nc cc] w fun r w' => r = .returned (.int .i64 s) ∧ BS w' g A n c p' e' ∧ Only g w w' := by
  unfold symS at hs
  by_cases he : e = 0
  · subst he
    rw [if_pos rfl] at hs
    exact sym_ok g n c p B nl cl nc cc A Al Ac zs l cs w h hb hB hn hp hl hc hnl hcl s p' e' hs
  · rw [if_neg he] at hs
    cases hs
    have HTK := Lib.hid (takeC g n c p B 1 e A zs w h hb hB hn (by omega) hp 0 p e (by unfold takeS; rw [if_neg he]))
    have hz : (e == 0) = false := beq_eq_false_iff_ne.2 he
    clear h hb he hl hc
    go_enter Try.func56, Try.ntmps56
    go_wp2
    go_loop [7, 8] (fun V L => V = .int .i64 0 ∧ L = .int .i64 1) (fun _ _ => 0)
    case atStart => exact ⟨rfl, rfl⟩
    case round =>
      obtain ⟨rfl, rfl⟩ := hrel
      have e1 : IntKind.i64.wrap (0 * 2) = 0 := rfl
      have e2 : bits .or .i64 0 0 = 0 := rfl
      go_wp2_with (go_at_call 44; refine HTK.out.mono ?_; rintro r w2 ⟨rfl, hb2, ho2⟩; have k2 := hb2.c2; have HB2 := Lib.hid hb2; have HO2 := Lib.hid ho2; clear hb2 ho2)
      go_ret
      exact ⟨rfl, HB2.out, HO2.out⟩

/-- A length, a distance: what it begins at, how many bits stand behind it. -/
def lenE (s : Nat) : Nat := if s ≤ 264 ∨ s = 285 then 0 else (s - 261) / 4
def lenB (s : Nat) : Int := if s ≤ 264 then (s : Int) - 254 else if s = 285 then 258 else (4 + ((s : Int) - 265) % 4) * 2 ^ ((s - 261) / 4) + 3
def disE (s : Nat) : Nat := if s ≤ 3 then 0 else s / 2 - 1
def disB (s : Nat) : Int := if s ≤ 3 then (s : Int) + 1 else (2 + (s : Int) % 2) * 2 ^ (s / 2 - 1) + 1
theorem lenB_bd : ∀ s : Fin 286, 257 ≤ s.val → 3 ≤ lenB s.val ∧ lenB s.val + 2 ^ lenE s.val ≤ 300 ∧ lenE s.val ≤ 5 := by decide +kernel
theorem disB_bd : ∀ s : Fin 30, 1 ≤ disB s.val ∧ disB s.val + 2 ^ disE s.val ≤ 40000 ∧ disE s.val ≤ 13 := by decide +kernel
/-- What the answer is, where the reader stands then, and its error. -/
def lenS (zs : List Int) (p : Nat) (e : Int) (s : Nat) : Int × Nat × Int := if s ≤ 264 ∨ s = 285 then (lenB s, p, e) else (lenB s + (takeS zs p e (lenE s)).1, (takeS zs p e (lenE s)).2)
def disS (zs : List Int) (p : Nat) (e : Int) (s : Nat) : Int × Nat × Int := if s ≤ 3 then (disB s, p, e) else (disB s + (takeS zs p e (disE s)).1, (takeS zs p e (disE s)).2)

set_option maxRecDepth 100000 in
theorem lenC (k g n c p B most s : Nat) (e : Int) (A : Option Addr) (v : Value) (out zs : List Int) (ts : Nat → Prop) (w : World) (h : FS w k g ts A n c p e v out most) (hb : Byt w B A n c zs) (hB : B ≤ g) (hn : n ≤ 100000000) (hp : p ≤ 8 * n) (h257 : 257 ≤ s) (h285 : s ≤ 285) (x : Int) (p' : Nat) (e' : Int) (hs : lenS zs p e s = (x, p', e')) :
    Calls Try.prog 57 #[.pointer (some ⟨k, 0, none⟩), .int .i64 s] w fun r w' => r = .returned (.int .i64 x) ∧ FS w' k g ts A n c p' e' v out most ∧ Only g w w' := by
  have H := Lib.hid h
  have h0 := h.c0
  have hbd := lenB_bd ⟨s, by omega⟩ h257
  dsimp only at hbd
  have HTK := Lib.hid (fun m v p' e' hm hs => takeC g n c p B m e A zs w h.bs hb hB hn hm hp v p' e' hs)
  clear h hb
  unfold lenS at hs
  by_cases h264 : s ≤ 264
  · rw [if_pos (.inl h264)] at hs
    cases hs
    have HX : Hid (lenB s = s - 254) := Lib.hid (by unfold lenB; rw [if_pos h264])
    clear hbd
    go_enter Try.func57, Try.ntmps57
    go_wp2
    go_ret
    exact ⟨congrArg Ending.returned (int_eq HX.out.symm), H.out, Only.refl _ _⟩
  · by_cases hs285 : s = 285
    · subst hs285
      rw [if_pos (.inr rfl)] at hs
      cases hs
      clear hbd
      go_enter Try.func57, Try.ntmps57
      go_wp2
      go_ret
      exact ⟨rfl, H.out, Only.refl _ _⟩
    · rw [if_neg (by omega)] at hs
      obtain ⟨E, hE⟩ : ∃ E, (s - 261) / 4 = E := ⟨_, rfl⟩
      have hEE : lenE s = E := by unfold lenE; rw [if_neg (by omega), hE]
      have hBB : lenB s = (4 + ((s : Int) - 265) % 4) * 2 ^ E + 3 := by unfold lenB; rw [if_neg h264, if_neg hs285, hE]
      rw [hEE] at hs hbd
      have hE5 : E ≤ 5 := hbd.2.2
      obtain ⟨y, q, d, htk⟩ : ∃ y q d, takeS zs p e E = (y, q, d) := ⟨_, _, _, rfl⟩
      have HTK1 := Lib.hid (HTK.out E y q d (by omega) htk)
      have hy := takeS_v zs p e E
      rw [htk] at hs hy
      have HR : Hid (lenB s + y = x ∧ q = p' ∧ d = e') := Lib.hid (by cases hs; exact ⟨rfl, rfl, rfl⟩)
      obtain ⟨R, hR⟩ : ∃ R : Nat, ((s : Int) - 265) % 4 = R := ⟨(((s : Int) - 265) % 4).toNat, by omega⟩
      rw [hR] at hBB
      have hR4 : R < 4 := by omega
      have e1 : ((s : Int) - 261) / 4 = E := by omega
      have hpw := pow_le16 E (by omega)
      have hL0 : (4 + (R : Int)) * 2 ^ E + 3 ≤ 300 := by have := hbd.2.1; rw [hBB] at this; omega
      have hL1 : 0 ≤ (4 + (R : Int)) * 2 ^ E := Int.mul_nonneg (by omega) (by omega)
      obtain ⟨M, hM⟩ : ∃ M, (4 + (R : Int)) * 2 ^ E = M := ⟨_, rfl⟩
      rw [hM] at hBB hL0 hL1
      have e2 : IntKind.i64.wrap ((4 + (R : Int)) * 2 ^ E) = M := by rw [hM]; exact IntWalk.i64_in _ (by omega)
      have hy2 : 0 ≤ y ∧ y ≤ 65536 := ⟨hy.1, by have := hy.2; omega⟩
      have HBB := Lib.hid hBB
      clear hs hE hEE htk hM hBB hbd hpw hy HTK
      go_enter Try.func57, Try.ntmps57
      go_wp2_with (go_at_call 44; refine HTK1.out.mono ?_; rintro r w2 ⟨rfl, hb2, ho2⟩; have H2 := Lib.hid (H.out.read ho2 hb2); have HO2 := Lib.hid ho2; clear hb2 ho2)
      go_ret
      obtain ⟨r1, rfl, rfl⟩ := HR.out
      have hx : M + 3 + y = x := by rw [← r1, HBB.out]
      exact ⟨congrArg Ending.returned (int_eq hx), H2.out, HO2.out⟩

set_option maxRecDepth 100000 in
theorem disC (k g n c p B most s : Nat) (e : Int) (A : Option Addr) (v : Value) (out zs : List Int) (ts : Nat → Prop) (w : World) (h : FS w k g ts A n c p e v out most) (hb : Byt w B A n c zs) (hB : B ≤ g) (hn : n ≤ 100000000) (hp : p ≤ 8 * n) (h29 : s ≤ 29) (x : Int) (p' : Nat) (e' : Int) (hs : disS zs p e s = (x, p', e')) :
    Calls Try.prog 58 #[.pointer (some ⟨k, 0, none⟩), .int .i64 s] w fun r w' => r = .returned (.int .i64 x) ∧ FS w' k g ts A n c p' e' v out most ∧ Only g w w' := by
  have H := Lib.hid h
  have h0 := h.c0
  have hbd := disB_bd ⟨s, by omega⟩
  dsimp only at hbd
  have HTK := Lib.hid (fun m v p' e' hm hs => takeC g n c p B m e A zs w h.bs hb hB hn hm hp v p' e' hs)
  clear h hb
  unfold disS at hs
  by_cases h3 : s ≤ 3
  · rw [if_pos h3] at hs
    cases hs
    have HX : Hid (disB s = s + 1) := Lib.hid (by unfold disB; rw [if_pos h3])
    clear hbd
    go_enter Try.func58, Try.ntmps58
    go_wp2
    go_ret
    exact ⟨congrArg Ending.returned (int_eq HX.out.symm), H.out, Only.refl _ _⟩
  · rw [if_neg h3] at hs
    obtain ⟨E, hE⟩ : ∃ E, s / 2 - 1 = E := ⟨_, rfl⟩
    have hEE : disE s = E := by unfold disE; rw [if_neg h3, hE]
    have hBB : disB s = (2 + (s : Int) % 2) * 2 ^ E + 1 := by unfold disB; rw [if_neg h3, hE]
    rw [hEE] at hs hbd
    have hE13 : E ≤ 13 := hbd.2.2
    obtain ⟨y, q, d, htk⟩ : ∃ y q d, takeS zs p e E = (y, q, d) := ⟨_, _, _, rfl⟩
    have HTK1 := Lib.hid (HTK.out E y q d (by omega) htk)
    have hy := takeS_v zs p e E
    rw [htk] at hs hy
    have HR : Hid (disB s + y = x ∧ q = p' ∧ d = e') := Lib.hid (by cases hs; exact ⟨rfl, rfl, rfl⟩)
    obtain ⟨R, hR⟩ : ∃ R : Nat, (s : Int) % 2 = R := ⟨((s : Int) % 2).toNat, by omega⟩
    rw [hR] at hBB
    have hR2 : R < 2 := by omega
    have e1 : (s : Int) / 2 = (E : Int) + 1 := by omega
    have hpw := pow_le16 E (by omega)
    have hL0 : (2 + (R : Int)) * 2 ^ E + 1 ≤ 40000 := by have := hbd.2.1; rw [hBB] at this; omega
    have hL1 : 0 ≤ (2 + (R : Int)) * 2 ^ E := Int.mul_nonneg (by omega) (by omega)
    obtain ⟨M, hM⟩ : ∃ M, (2 + (R : Int)) * 2 ^ E = M := ⟨_, rfl⟩
    rw [hM] at hBB hL0 hL1
    have e2 : IntKind.i64.wrap ((2 + (R : Int)) * 2 ^ E) = M := by rw [hM]; exact IntWalk.i64_in _ (by omega)
    have hy2 : 0 ≤ y ∧ y ≤ 65536 := ⟨hy.1, by have := hy.2; omega⟩
    have HBB := Lib.hid hBB
    clear hs hE hEE htk hM hBB hbd hpw hy HTK
    go_enter Try.func58, Try.ntmps58
    go_wp2_with (go_at_call 44; refine HTK1.out.mono ?_; rintro r w2 ⟨rfl, hb2, ho2⟩; have H2 := Lib.hid (H.out.read ho2 hb2); have HO2 := Lib.hid ho2; clear hb2 ho2)
    go_ret
    obtain ⟨r1, rfl, rfl⟩ := HR.out
    have hx : M + 1 + y = x := by rw [← r1, HBB.out]
    exact ⟨congrArg Ending.returned (int_eq hx), H2.out, HO2.out⟩
end Go.Proofs.Ytginbilakdenmaa
