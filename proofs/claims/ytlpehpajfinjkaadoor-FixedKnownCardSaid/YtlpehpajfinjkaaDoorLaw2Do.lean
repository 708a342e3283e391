/- The statements' own 'awake' of layer 2; '[]byte(s)'; bytes that a call made. -/
import Derived.Test.YtlpehpajfinjkaaDoorFx2
import Derived.Laws.IdiomStrings
import Derived.Lib.SlBytesConst
namespace Go.Proofs.YtlpehpajfinjkaaDoor
open Go.RowKit
set_option linter.unusedVariables false

/-- A block of bytes that the call made. -/
theorem byt_lit (w : World) (fr : Nat × Nat) (zs : List Int) (hr : ∀ z ∈ zs, 0 ≤ z ∧ z < 256) (n : Nat) (hn : zs.length = n) (C : Array Value) (hC : C = (zs.map (Value.int .u8)).toArray) :
    Byt (w.alloc (.cells C 5 fr)) (w.heap.size + 1) (some ⟨w.heap.size, 0, none⟩) n n zs := by
  refine ⟨hn, Nat.le_refl _, hr, fun _ => ⟨w.heap.size, 0, rfl, by omega, fun i hi => ?_⟩⟩
  rw [World.cell?_alloc_mark, hC, Nat.zero_add]
  simp [List.getD, hn, hi]
theorem byt_litW (w W : World) (fr : Nat × Nat) (zs : List Int) (hr : ∀ z ∈ zs, 0 ≤ z ∧ z < 256) (n : Nat) (hn : zs.length = n) (C : Array Value) (hC : C = (zs.map (Value.int .u8)).toArray) (hW : W = w.alloc (.cells C 5 fr)) :
    Byt W W.heap.size (some ⟨w.heap.size, 0, none⟩) n n zs := by
  have h := byt_lit w fr zs hr n hn C hC
  rw [hW]
  have e : (w.alloc (.cells C 5 fr)).heap.size = w.heap.size + 1 := by simp
  rw [e]
  exact h

/-- '[]byte(s)'. -/
theorem str_bytes (S : ByteArray) : ∃ (cc : World → Nat) (ww : World → World), ∀ w : World,
    (convert 9 26 (.string S)).run Tryd.prog w = .ok (.slice (some ⟨w.heap.size, 0, none⟩) S.size (cc w)) (ww w) ∧
    Byt (ww w) (ww w).heap.size (some ⟨w.heap.size, 0, none⟩) S.size (cc w) (zsB S.data.toList) ∧ Below w.heap.size w (ww w) := by
  refine ⟨fun w => grownCap w S.size 0 5, fun w => w.drew.alloc (.cells (bytesRow S (grownCap w S.size 0 5)) 5 ((bytesRow S (grownCap w S.size 0 5)).size, (bytesRow S (grownCap w S.size 0 5)).size + 1)), fun w => ⟨run_bytes_of_string w 9 26 5 S Tryd.underlying9 Tryd.underlying26 Tryd.underlying5, ⟨by simp [zsB], grownCap_ge w S.size 0 5, fun z hz => ?_, fun h0 => ⟨w.heap.size, 0, rfl, ?_, fun i hi => ?_⟩⟩, ?_⟩⟩
  · obtain ⟨b, _, rfl⟩ := List.mem_map.1 hz
    have := b.toNat_lt
    omega
  · simp
  · have hs : w.drew.heap.size = w.heap.size := rfl
    rw [← hs, World.cell?_alloc_mark, Nat.zero_add]
    have hi2 : i < S.data.size := hi
    simp [bytesRow, zsB, List.getD, Array.getElem?_append]
    rw [if_pos hi, Array.getElem?_eq_getElem hi2]
    rfl
  · exact (below_drewN (Below.refl w.heap.size w) 1).alloc (Nat.le_refl _) _

theorem awake_any (w : World) (htab : Tab w) : Calls Tryd.prog 11 #[] w fun e w' => e = .returned (.bool true) ∧ Below w.heap.size w w' := by
  have HTB := Lib.hid htab
  clear htab
  have kc := fun (w : World) (C : Array Value) (n c : Nat) => Lib.run_convert_bytes_const (P := Tryd.prog) w 26 5 C n c Tryd.underlying26 Tryd.underlying5
  obtain ⟨W1, hW1⟩ : ∃ W1, W1 = w.alloc (.cells #[.int .u8 45, .int .u8 49, .int .u8 46, .int .u8 53] 5 (4, 5)) := ⟨_, rfl⟩
  have hby := byt_litW w W1 (4, 5) [45, 49, 46, 53] (by decide) 4 rfl _ rfl hW1
  have hb1 : Below w.heap.size w W1 := by rw [hW1]; exact (Below.refl _ _).alloc (Nat.le_refl _) _
  have hp := fxParse _ 4 4 _ W1 hby (by omega)
  have ep : parseS [45, 49, 46, 53] = (-150000, false, 0) := by decide
  rw [ep] at hp
  have et : (⟨(textB (-150000) false).toArray⟩ : ByteArray) = ⟨#[45, 49, 46, 53]⟩ := by kernel_rfl
  have HT := Lib.hid (fun W hT => et ▸ fxText (-150000) false W (by omega) (by omega) hT)
  have HI := Lib.hid (fun W => (show inB 0 = true from by decide) ▸ fxIn 0 W)
  have HP := Lib.hid hp
  have HW1 := Lib.hid hW1
  have HB1 := Lib.hid hb1
  clear hby hb1 hp ep et hW1
  go_enter Tryd.func11, Tryd.ntmps11
  go_wp2_with (first
    | (go_at_call 12; rw [← HW1.out]; refine HP.out.mono ?_; rintro e w2 ⟨rfl, hb2⟩)
    | (go_at_call 15; refine (HT.out _ (HTB.out.below (HB1.out.trans (hb2.mono HB1.out.size)) (Nat.le_refl _))).mono ?_; rintro e w3 ⟨rfl, hb3⟩)
    | (go_at_call 18; refine (HI.out _).mono ?_; rintro e w4 ⟨rfl, hb4⟩))
  go_ret
  have h1 := HB1.out
  have h2 := h1.trans (hb2.mono h1.size)
  have h3 := h2.trans (hb3.mono h2.size)
  exact ⟨rfl, h3.trans (hb4.mono h3.size)⟩
end Go.Proofs.YtlpehpajfinjkaaDoor
