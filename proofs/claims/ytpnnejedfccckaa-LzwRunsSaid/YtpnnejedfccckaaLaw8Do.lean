/- Chapter 8's laws ask a known text first. -/
import Derived.Test.YtpnnejedfccckaaPe8
import Derived.Test.YtpnnejedfccckaaLr8
import Derived.Test.YtpnnejedfccckaaOpenK
namespace Go.Proofs.Ytpnnejedfccckaa
open Go.RowKit
set_option linter.unusedVariables false
set_option maxRecDepth 100000

theorem ReadPost.at8 {w w' : World} {zs : List Int} {n : Nat} {r : Ending} (hn : zs.length = n) (h : ReadPost w (zs, 0) r w') : ∃ A c, r = .returned (.tuple #[.slice A n c, .int .i64 0]) ∧ Byt w' w'.heap.size A n c zs ∧ Below w.heap.size w w' := by
  subst hn
  obtain ⟨A, c, rfl, hy, hb, _⟩ := h
  exact ⟨A, c, rfl, hy, hb⟩
theorem ReadPost.bad8 {w w' : World} {e : Int} {r : Ending} (h : ReadPost w ([], e) r w') : ∃ A c, r = .returned (.tuple #[.slice A 0 c, .int .i64 e]) ∧ Below w.heap.size w w' := by
  obtain ⟨A, c, rfl, _, hb, _⟩ := h
  exact ⟨A, c, rfl, hb⟩
set_option maxHeartbeats 2000000 in
theorem awake_any (w : World) : Calls Try.prog 8 #[] w fun e w' => e = .returned (.bool true) ∧ Below w.heap.size w w' := by
  have kc := fun (w : World) (C : Array Value) (n c : Nat) => Lib.run_convert_bytes_const (P := Try.prog) w 23 5 C n c Try.underlying23 Try.underlying5
  obtain ⟨E, hE⟩ : ∃ E, lzEnc [97, 98, 97, 98] = E := ⟨_, rfl⟩
  have hel : E.length ≤ 1000 := by
    have := lzBits_len [97, 98, 97, 98]
    rw [← hE, lzEnc_len]
    simp at this
    omega
  have hdec : lzDec (max (9 : Int) 0).toNat E = ([97, 98, 97, 98], 0) := by
    have := lz_back (max (9 : Int) 0).toNat [97, 98, 97, 98] [] (by decide)
    rw [List.append_nil, hE, if_pos (by decide)] at this
    exact this
  have HST : Hid (∀ (W : World) (b : Nat), b = W.heap.size → Calls Try.prog 11 #[.slice (some ⟨b, 0, none⟩) 4 4] (W.alloc (.cells #[.int .u8 97, .int .u8 98, .int .u8 97, .int .u8 98] 5 (4, 5))) fun r w' => ∃ A c, r = .returned (.slice A E.length c) ∧ Byt w' w'.heap.size A E.length c E ∧ Below W.heap.size W w') := Lib.hid fun W b e => by
    subst e
    have h := pEncode _ 4 4 [97, 98, 97, 98] (W.alloc (.cells #[.int .u8 97, .int .u8 98, .int .u8 97, .int .u8 98] 5 (4, 5))) ((byt_lit W (4, 5) [97, 98, 97, 98] (by decide) 4 rfl _ rfl).more (by rw [World.size_alloc]; exact Nat.le_refl _)) (by omega)
    rw [hE] at h
    refine h.mono ?_
    rintro r w' ⟨v, rfl, hm, hb⟩
    obtain ⟨A, c, rfl, hy⟩ := hm.byt
    exact ⟨A, c, rfl, hy, ((Below.refl _ _).alloc (Nat.le_refl _) _).trans (hb.mono (by simp))⟩
  have HDC := Lib.hid (fun W A c (hW : Byt W W.heap.size A E.length c E) => pDecode A E.length c 9 E W hW (by omega) (by omega) (by omega) _ hdec)
  clear hE hdec hel
  go_enter Try.func8, Try.ntmps8
  go_wp2_with (first
    | (go_at_call 11; refine (HST.out w _ rfl).mono ?_; (rintro r w1 ⟨A1, c1, rfl, hy1, hb1⟩); have HY1 := Lib.hid hy1; have HB1 := Lib.hid hb1; clear hy1 hb1)
    | (go_at_call 9; refine (HDC.out _ _ _ HY1.out).mono ?_; intro r w3 hr3; obtain ⟨A3, c3, rfl, hy3, hb3⟩ := hr3.at8 (n := 4) rfl; clear hr3; have hcv := hy3.inn.convert (P := Try.prog) hy3.len c3 23 5 9 Try.underlying23 Try.underlying5 Try.underlying9; rw [show strOfNums [97, 98, 97, 98] = ⟨#[97, 98, 97, 98]⟩ from rfl] at hcv; have HB3 := Lib.hid (HB1.out.trans (hb3.mono HB1.out.size)); clear hy3 hb3))
  go_ret
  exact ⟨rfl, HB3.out⟩
end Go.Proofs.Ytpnnejedfccckaa
