/- Chapter 11: the document prints a string. -/
import Derived.Test.YtojbhckgegoldaaNm11
import Derived.Test.YtojbhckgegoldaaTl11
import Derived.Test.YtojbhckgegoldaaWr6
namespace Go.Proofs.Ytojbhckgegoldaa
open Go.RowKit
set_option linter.unusedVariables false
set_option maxRecDepth 100000

theorem all_snoc (zs : List Int) (k : Nat) (hk : k < zs.length) : (zs.take (k + 1)).all txB = ((zs.take k).all txB && txB (zs.getD k 0)) := by
  rw [take_snocZ zs k hk, List.all_append]
  simp
theorem txB_no (z : Int) (h : z < 32 ∨ 126 < z ∨ z = 40 ∨ z = 41 ∨ z = 92) : txB z = false := by
  unfold txB
  simp
  omega
theorem txB_yes (z : Int) (h0 : 32 ≤ z) (h1 : z ≤ 126) (h2 : z ≠ 40) (h3 : z ≠ 41) (h4 : z ≠ 92) : txB z = true := by
  unfold txB
  simp
  omega
set_option maxHeartbeats 4000000 in
theorem printTextC (A : Option Addr) (n c : Nat) (zs : List Int) (w : World) (hb : Byt w w.heap.size A n c zs) (hn : n ≤ 500) :
    Calls Try.prog 25 #[.slice A n c] w fun r w' => ∃ A' c', r = .returned (.slice A' (txS zs).length c') ∧ Byt w' w'.heap.size A' (txS zs).length c' (txS zs) ∧ Below w.heap.size w w' := by
  have HB := Lib.hid hb
  have HL := Lib.hid hb.len
  have HDG := Lib.hid (fun W (hW : Byt W W.heap.size A n c zs) => refDigs A n c zs W hW (by omega))
  clear hb
  go_enter Try.func25, Try.ntmps25
  go_wp2_with fail
  go_loopw [3, 4] (fun s3 s4 wr => ∃ (k q : Nat), k ≤ n ∧ s4 = .int .i64 k ∧ s3 = .bool ((zs.take k).all txB) ∧ wr = w.drewN q) (fun _ s4 _ => n - (intOf s4).toNat)
  case atStart => exact ⟨0, 0, Nat.zero_le _, rfl, by simp, rfl⟩
  case round =>
    obtain ⟨k, q, hk, rfl, rfl, rfl⟩ := hrel
    by_cases hlt : k < n
    · have HAL := Lib.hid (all_snoc zs k (by rw [HL.out]; exact hlt))
      have hz := HB.out.getD k
      obtain ⟨b, o, rfl, _, hc⟩ := HB.out.cell (by omega)
      have ck := hc k hlt
      obtain ⟨z, hzz⟩ : ∃ z, zs.getD k 0 = z := ⟨_, rfl⟩
      rw [hzz] at ck hz HAL
      obtain ⟨z0, z1⟩ := hz
      clear hc hzz
      rcases hp : (zs.take k).all txB with _ | _
      · have HV : Hid ((zs.take (k + 1)).all txB = false) := Lib.hid (by rw [HAL.out, hp]; rfl)
        clear hp
        go_wp2_with fail
        go_roundw
        case rel => exact ⟨k + 1, _, hlt, by go_num, by rw [HV.out], rfl⟩
        case measure => simp [intOf]; omega
      have HP := Lib.hid hp
      clear hp
      by_cases h1 : z < 32
      · have HV : Hid ((zs.take (k + 1)).all txB = false) := Lib.hid (by rw [HAL.out, HP.out, txB_no z (by omega)]; rfl)
        go_wp2_with fail
        go_roundw
        case rel => exact ⟨k + 1, _, hlt, by go_num, by rw [HV.out], rfl⟩
        case measure => simp [intOf]; omega
      by_cases h2 : 126 < z
      · have HV : Hid ((zs.take (k + 1)).all txB = false) := Lib.hid (by rw [HAL.out, HP.out, txB_no z (by omega)]; rfl)
        go_wp2_with fail
        go_roundw
        case rel => exact ⟨k + 1, _, hlt, by go_num, by rw [HV.out], rfl⟩
        case measure => simp [intOf]; omega
      by_cases h3 : z = 40
      · have HV : Hid ((zs.take (k + 1)).all txB = false) := Lib.hid (by rw [HAL.out, HP.out, txB_no z (by omega)]; rfl)
        subst h3
        go_wp2_with fail
        go_roundw
        case rel => exact ⟨k + 1, _, hlt, by go_num, by rw [HV.out], rfl⟩
        case measure => simp [intOf]; omega
      by_cases h4 : z = 41
      · have HV : Hid ((zs.take (k + 1)).all txB = false) := Lib.hid (by rw [HAL.out, HP.out, txB_no z (by omega)]; rfl)
        subst h4
        go_wp2_with fail
        go_roundw
        case rel => exact ⟨k + 1, _, hlt, by go_num, by rw [HV.out], rfl⟩
        case measure => simp [intOf]; omega
      by_cases h5 : z = 92
      · have HV : Hid ((zs.take (k + 1)).all txB = false) := Lib.hid (by rw [HAL.out, HP.out, txB_no z (by omega)]; rfl)
        subst h5
        go_wp2_with fail
        go_roundw
        case rel => exact ⟨k + 1, _, hlt, by go_num, by rw [HV.out], rfl⟩
        case measure => simp [intOf]; omega
      · have HV : Hid ((zs.take (k + 1)).all txB = true) := Lib.hid (by rw [HAL.out, HP.out, txB_yes z (by omega) (by omega) h3 h4 h5]; rfl)
        have h1' : 32 ≤ z := by omega
        have h2' : z ≤ 126 := by omega
        go_wp2_with fail
        go_roundw
        case rel => exact ⟨k + 1, _, hlt, by go_num, by rw [HV.out]; simp [h3, h4, h5], rfl⟩
        case measure => simp [intOf]; omega
    · obtain rfl : k = n := by omega
      have HTK := Lib.hid (show zs.take k = zs from List.take_of_length_le (by rw [HL.out]; exact Nat.le_refl _))
      rw [HTK.out]
      clear HTK
      rcases hp : zs.all txB with _ | _
      · have HTX : Hid (txS zs = 60 :: (hxB zs ++ [62])) := Lib.hid (by unfold txS; rw [hp]; rfl)
        have hes : (⟨#[60]⟩ : ByteArray) ++ strOfNums (hxB zs) ++ ⟨#[62]⟩ = strOfNums (60 :: (hxB zs ++ [62])) := by
          rw [show (60 :: (hxB zs ++ [62]) : List Int) = [60] ++ hxB zs ++ [62] from rfl, strOfNums_app, strOfNums_app]
          rfl
        have hrr : ∀ z ∈ (60 :: (hxB zs ++ [62]) : List Int), 0 ≤ z ∧ z < 256 := fun z hm => by
          rcases List.mem_cons.1 hm with rfl | hm
          · omega
          · rcases List.mem_append.1 hm with hm | hm
            · have := hxB_rng zs HB.out.rng z hm
              omega
            · simp at hm; omega
        have HCV := Lib.hid (fun W => hes ▸ str_bytes6 _ hrr W)
        obtain ⟨N, hN⟩ : ∃ N, (60 :: (hxB zs ++ [62]) : List Int).length = N := ⟨_, rfl⟩
        rw [hN] at HCV
        have HN := Lib.hid hN
        clear hN
        have hsz : (strOfNums (hxB zs)).size = 2 * k := by rw [strOfNums_size, hxB_len, HL.out]
        obtain ⟨S, hS⟩ : ∃ S, strOfNums (hxB zs) = S := ⟨_, rfl⟩
        rw [hS] at HDG HCV hsz
        have hsz1 : (1 : Nat) + S.size ≤ 9223372036854775807 := by omega
        have hsz2 : ((⟨#[60]⟩ : ByteArray) ++ S).size = 1 + 2 * k := by rw [ByteArray.size_append, hsz]; rfl
        clear hp hes hrr hS
        go_wp2_with (go_at_call 42; refine (HDG.out _ (HB.out.drewN _)).mono ?_; (rintro r w3 ⟨rfl, q3, rfl⟩); obtain ⟨cc, ww, hcv, hby, hbe⟩ := HCV.out (w.drewN (q + q3)); have HBY := Lib.hid hby; have HBE := Lib.hid hbe; clear hby hbe)
        go_ret
        rw [HTX.out, HN.out]
        exact ⟨_, _, rfl, HBY.out, (below_drewN (Below.refl w.heap.size w) (q + q3)).trans HBE.out⟩
      · have HTX : Hid (txS zs = 40 :: (zs ++ [41])) := Lib.hid (by unfold txS; rw [hp]; rfl)
        have HLT : Hid ((txS zs).length = k + 2) := Lib.hid (by rw [HTX.out]; simp [HL.out])
        have hbw := below_drewN (Below.refl w.heap.size w) q
        have hbz := HB.out.drewN q
        obtain ⟨wr, hwr⟩ : ∃ wr, w.drewN q = wr := ⟨_, rfl⟩
        have hsw : wr.heap.size = w.heap.size := by rw [← hwr]; rfl
        rw [hwr] at hbz hbw
        rw [hwr]
        rw [← hsw] at hbz
        obtain ⟨A9, n9, c9, W9, hr9, A10, c10, W10, hr10, hm10, hb10⟩ := braced wr k c A zs hbz (by omega) 40 41 (by omega) (by omega)
        obtain ⟨A11, c11, e11, hby11⟩ := hm10.byt
        injection e11 with e1 _ e3
        subst e1 e3
        have HBY := Lib.hid hby11
        have HBE := Lib.hid (hbw.trans (hsw ▸ hb10))
        have HR9 := Lib.hid hr9
        have HR10 := Lib.hid hr10
        clear hp hwr hsw hbz hr9 hr10 hm10 hb10 hby11 hbw
        go_wp2_with (first
          | (at_builtin; refine Lib.wpList_append_run_sl _ rfl (.tmp 48) (.tmp 49) 25 rfl _ _ rfl rfl HR9.out ?_)
          | (at_builtin; refine Lib.wpList_append_run_sl _ rfl (.tmp 50) (.tmp 51) 25 rfl _ _ rfl rfl HR10.out ?_))
        go_ret
        rw [HLT.out, HTX.out]
        exact ⟨_, _, rfl, HBY.out, HBE.out⟩
end Go.Proofs.Ytojbhckgegoldaa
