/- Chapter 5, the project's own Zlib. -/
import Derived.Test.YtginbilakdenmaaPFx5
import Derived.Test.YtginbilakdenmaaSm3
namespace Go.Proofs.Ytginbilakdenmaa
open Go.RowKit
set_option linter.unusedVariables false
set_option maxRecDepth 100000

theorem catZ3_len {Z : Nat → List Int} {n : Nat} (h : ∀ i, i < n → (Z i).length ≤ 200000) : ∀ k, k ≤ n → (catZ Z k).length ≤ 200000 * k := by
  intro k
  induction k with
  | zero => intro _; simp [catZ]
  | succ k ih =>
    intro hk
    have h1 := ih (by omega)
    have h2 := h k (by omega)
    simp only [catZ, List.length_append]
    omega
set_option maxHeartbeats 2000000 in
theorem concat3 (A : Option Addr) (n c B : Nat) (As : Nat → Option Addr) (Ns Cs : Nat → Nat) (Z : Nat → List Int) (w : World) (hp : Parts w B A n As Ns Cs Z) (hB : B ≤ w.heap.size) (hn : n ≤ 3) (hz : ∀ i, i < n → (Z i).length ≤ 200000) :
    Calls Try.prog 33 #[.slice A n c] w fun e w' => ∃ v, e = .returned v ∧ Mine w' w.heap.size v (catZ Z n).length (catZ Z n) ∧ Below w.heap.size w w' := by
  have HP := Lib.hid hp
  have HZ := Lib.hid hz
  clear hp hz
  go_enter Try.func33, Try.ntmps33
  go_wp2
  go_loop [3, 11] (fun sz i => ∃ k : Nat, k ≤ n ∧ i = .int .i64 k ∧ sz = .int .i64 ((catZ Z k).length : Nat)) (fun _ i => n - (intOf i).toNat)
  case atStart => exact ⟨0, Nat.zero_le _, rfl, rfl⟩
  case round =>
    obtain ⟨k, hk, rfl, rfl⟩ := hrel
    have hl := catZ3_len HZ.out k hk
    obtain ⟨L, hL⟩ : ∃ L, (catZ Z k).length = L := ⟨_, rfl⟩
    rw [hL] at hl ⊢
    have HLL := Lib.hid hL
    clear hL
    by_cases hlt : k < n
    · obtain ⟨b, o, rfl, _, hc⟩ := HP.out.cell (by omega)
      have ck := hc k hlt
      have hz := HZ.out k hlt
      have hln := (HP.out.byt k hlt).len
      obtain ⟨A1, hA1⟩ : ∃ x, As k = x := ⟨_, rfl⟩
      obtain ⟨N1, hN1⟩ : ∃ x, Ns k = x := ⟨_, rfl⟩
      obtain ⟨C1, hC1⟩ : ∃ x, Cs k = x := ⟨_, rfl⟩
      rw [hA1, hN1, hC1] at ck
      have hN200 : N1 ≤ 200000 := by omega
      have HN : Hid ((catZ Z (k + 1)).length = L + N1) := Lib.hid (by simp only [catZ, List.length_append]; rw [HLL.out]; omega)
      clear hc hz hln hA1 hN1 hC1
      go_wp2
      go_round
      case rel => exact ⟨k + 1, by omega, by go_num, by rw [HN.out]; go_num⟩
      case measure => simp [intOf]; omega
    · obtain rfl : k = n := by omega
      go_wp2_with (go_at_call 53; refine (grow_any L w (by omega)).mono ?_; rintro e w1 ⟨v1, rfl, hmi1, hbe1⟩)
      have HMI := Lib.hid hmi1
      have HBE := Lib.hid hbe1
      clear hmi1 hbe1
      go_loopw [6, 27] (fun v i wr => ∃ j : Nat, j ≤ k ∧ i = .int .i64 j ∧ Mine wr w.heap.size v (catZ Z j).length (catZ Z j) ∧ Below w.heap.size w wr) (fun _ i _ => k - (intOf i).toNat)
      case atStart => exact ⟨0, Nat.zero_le _, rfl, HMI.out, HBE.out⟩
      case round =>
        obtain ⟨j, hj, rfl, hmi, hbe⟩ := hrel
        have HMI2 := Lib.hid hmi
        have HBE2 := Lib.hid hbe
        have hl := catZ3_len HZ.out j hj
        by_cases hlt2 : j < k
        · have hpj := HP.out.below hbe hB
          obtain ⟨b, o, rfl, _, hc⟩ := hpj.cell (by omega)
          have ck := hc j hlt2
          have hby := hpj.byt j hlt2
          have hln := hby.len
          have hz := HZ.out j hlt2
          have HBY := Lib.hid hby
          have hN200 : Ns j ≤ 200000 := by omega
          have HAP := Lib.hid (hmi.append hby 29 (by omega) hbe.size)
          have HCL : Hid ((catZ Z (j + 1)).length = (catZ Z j).length + Ns j) := Lib.hid (by simp only [catZ, List.length_append]; rw [hln])
          clear hpj hc hby hln hz hmi hbe hl
          go_wp2_with (at_builtin; obtain ⟨v6, w6, hrun, hmi6, hbe6⟩ := HAP.out; refine Lib.wpList_append_run_sl _ rfl (.tmp 31) (.tmp 32) 29 rfl _ _ rfl rfl hrun ?_; clear hrun)
          have hmi7 : Mine w6 w.heap.size v6 (catZ Z (j + 1)).length (catZ Z (j + 1)) := by rw [HCL.out]; exact hmi6
          go_roundw
          case rel => exact ⟨j + 1, by omega, by go_num, hmi7, HBE2.out.trans hbe6⟩
          case measure => simp [intOf]; omega
        · obtain rfl : j = k := by omega
          clear hmi hbe
          go_wp2
          go_ret
          exact ⟨_, rfl, HMI2.out, HBE2.out⟩

/-- One slice of bytes as the only part. -/
def one {α : Type} (x : α) : Nat → α := fun _ => x
theorem parts_one (w : World) (B n c : Nat) (A : Option Addr) (zs : List Int) (h : Byt w B A n c zs) (hB : B ≤ w.heap.size) (T : TypeId) :
    Parts (w.alloc (.cells #[.slice A n c] T)) (w.heap.size + 1) (some ⟨w.heap.size, 0, none⟩) 1 (one A) (one n) (one c) (one zs) :=
  ⟨fun _ => ⟨w.heap.size, 0, rfl, by omega, fun i hi => by
    obtain rfl : i = 0 := by omega
    rw [cell_of_row _ w.heap.size _ #[.slice A n c] T (0, 0) (heap_alloc_new w _)]; rfl⟩, fun i hi => (h.alloc hB _).more (by omega)⟩
def asZ (b : Nat) (Av : Option Addr) : Nat → Option Addr
  | 0 => some ⟨b, 0, none⟩
  | 1 => Av
  | _ => some ⟨b + 1, 0, none⟩
def nsZ (q : Nat) : Nat → Nat
  | 0 => 2
  | 1 => q
  | _ => 4
def zsZ (X Y : List Int) : Nat → List Int
  | 0 => [120, 1]
  | 1 => X
  | _ => Y
theorem catC (w : World) (base : Nat) (hB : base ≤ w.heap.size) (Av : Option Addr) (q c : Nat) (X : List Int) (hx : Byt w w.heap.size Av q c X) (hq : q ≤ 200000) (V : Int) (v0 : 0 ≤ V) (v1 : V ≤ 4294967295) :
    Calls Try.prog 33 #[.slice (some ⟨w.heap.size + 1 + 1, 0, none⟩) 3 3]
      (((w.alloc (.cells #[.int .u8 120, .int .u8 1] 5)).alloc (.cells #[.int .u8 (V / 16777216), .int .u8 (V / 65536 % 256), .int .u8 (V / 256 % 256), .int .u8 (V % 256)] 5)).alloc (.cells #[.slice (some ⟨w.heap.size, 0, none⟩) 2 2, .slice Av q c, .slice (some ⟨w.heap.size + 1, 0, none⟩) 4 4] 29))
      fun e w' => ∃ v, e = .returned v ∧ Mine w' base v ([120, 1] ++ X ++ big4 V).length ([120, 1] ++ X ++ big4 V) ∧ Below base w w' := by
  obtain ⟨W1, hW1⟩ : ∃ W1, w.alloc (.cells #[.int .u8 120, .int .u8 1] 5) = W1 := ⟨_, rfl⟩
  obtain ⟨W2, hW2⟩ : ∃ W2, W1.alloc (.cells #[.int .u8 (V / 16777216), .int .u8 (V / 65536 % 256), .int .u8 (V / 256 % 256), .int .u8 (V % 256)] 5) = W2 := ⟨_, rfl⟩
  obtain ⟨W3, hW3⟩ : ∃ W3, W2.alloc (.cells #[.slice (some ⟨w.heap.size, 0, none⟩) 2 2, .slice Av q c, .slice (some ⟨w.heap.size + 1, 0, none⟩) 4 4] 29) = W3 := ⟨_, rfl⟩
  have s1 : W1.heap.size = w.heap.size + 1 := by rw [← hW1]; simp
  have s2 : W2.heap.size = w.heap.size + 2 := by rw [← hW2]; simp [s1]
  have s3 : W3.heap.size = w.heap.size + 3 := by rw [← hW3]; simp [s2]
  have b1 : Below w.heap.size w W1 := by rw [← hW1]; exact (Below.refl _ _).alloc (Nat.le_refl _) _
  have b2 : Below W1.heap.size W1 W2 := by rw [← hW2]; exact (Below.refl _ _).alloc (Nat.le_refl _) _
  have b3 : Below W2.heap.size W2 W3 := by rw [← hW3]; exact (Below.refl _ _).alloc (Nat.le_refl _) _
  have y1 : Byt W1 (w.heap.size + 1) (some ⟨w.heap.size, 0, none⟩) 2 2 [120, 1] := by
    rw [← hW1]; exact byt_lit w (0, 0) [120, 1] (fun z hz => by simp at hz; omega) 2 rfl _ rfl
  have y2 : Byt W2 (W1.heap.size + 1) (some ⟨W1.heap.size, 0, none⟩) 4 4 (big4 V) := by
    rw [← hW2]; exact byt_lit W1 (0, 0) (big4 V) (big4_rng V) 4 rfl _ (by simp [big4]; omega)
  have y3 : Byt W3 W3.heap.size (some ⟨w.heap.size, 0, none⟩) 2 2 [120, 1] := ((y1.below b2 (by omega)).below b3 (by omega)).more (by omega)
  have y4 : Byt W3 W3.heap.size (some ⟨w.heap.size + 1, 0, none⟩) 4 4 (big4 V) := by rw [← s1]; exact (y2.below b3 (by omega)).more (by omega)
  have y5 : Byt W3 W3.heap.size Av q c X := (((hx.below b1 (Nat.le_refl _)).below b2 (by omega)).below b3 (by omega)).more (by omega)
  have hc3 : W3.heap[W2.heap.size]? = some (.cells #[.slice (some ⟨w.heap.size, 0, none⟩) 2 2, .slice Av q c, .slice (some ⟨w.heap.size + 1, 0, none⟩) 4 4] 29 (0, 0)) := by rw [← hW3]; exact heap_alloc_new W2 _
  have hp : Parts W3 W3.heap.size (some ⟨w.heap.size + 1 + 1, 0, none⟩) 3 (asZ w.heap.size Av) (nsZ q) (fun i => if i = 1 then c else nsZ q i) (zsZ X (big4 V)) := by
    refine ⟨fun _ => ⟨w.heap.size + 1 + 1, 0, rfl, by omega, fun i hi => ?_⟩, fun i hi => ?_⟩
    · rw [show w.heap.size + 1 + 1 = W2.heap.size by omega, cell_of_row W3 W2.heap.size _ _ _ (0, 0) hc3]
      rcases (show i = 0 ∨ i = 1 ∨ i = 2 by omega) with rfl | rfl | rfl <;> rfl
    · rcases (show i = 0 ∨ i = 1 ∨ i = 2 by omega) with rfl | rfl | rfl
      · exact y3
      · exact y5
      · exact y4
  have h := concat3 _ 3 3 _ _ _ _ _ W3 hp (Nat.le_refl _) (by omega) (fun i hi => by
    rcases (show i = 0 ∨ i = 1 ∨ i = 2 by omega) with rfl | rfl | rfl
    · show 2 ≤ 200000; omega
    · show X.length ≤ 200000; rw [hx.len]; exact hq
    · show (big4 V).length ≤ 200000; simp [big4])
  have e : catZ (zsZ X (big4 V)) 3 = [120, 1] ++ X ++ big4 V := by simp [catZ, zsZ]
  rw [e] at h
  rw [hW1, hW2, hW3]
  refine h.mono ?_
  rintro r w' ⟨v, rfl, hm, hb⟩
  exact ⟨v, rfl, hm.base (by omega), ((b1.mono hB).trans (b2.mono (by omega))).trans ((b3.mono (by omega)).trans (hb.mono (by omega)))⟩
theorem chunks_one (zs : List Int) (h : zs.length ≤ 65535) : chunksS zs = [zs] := chF_one _ _ h
set_option maxHeartbeats 2000000 in
theorem pZlib (A : Option Addr) (n c : Nat) (zs : List Int) (w : World) (hb : Byt w w.heap.size A n c zs) (hn : n ≤ 65535) :
    Calls Try.prog 16 #[.slice A n c] w fun r w' => ∃ v, r = .returned v ∧ Mine w' w.heap.size v (zlibS zs).length (zlibS zs) ∧ Below w.heap.size w w' := by
  have HBY := Lib.hid (fun W (hW : Below w.heap.size w W) => (hb.below hW (Nat.le_refl _)).more hW.size)
  have HFX := Lib.hid (fun W (hW : Byt W W.heap.size A n c zs) => pFixed A n c zs W hW (by omega))
  have hst := fun W (hW : Byt W W.heap.size A n c zs) => pStored A n c zs W hW (by omega)
  rw [chunks_one zs (by rw [hb.len]; exact hn)] at hst
  have HST := Lib.hid hst
  have hmv := moreV_bd 1 zs
  have hj1 := join1_len zs
  rw [hb.len] at hj1
  have hfl : (fixedS zs).length ≤ 9 * n + 20 := by
    have h1 := fixR_len zs hb.rng zs.length 0
    have h2 := symB_len 256 (by omega)
    have := hb.len
    unfold fixedS
    rw [pack_len]
    unfold fixBits
    simp only [List.length_append, List.length_cons, List.length_nil]
    omega
  have had : ∀ W, Byt W W.heap.size A n c zs → ∀ T, Calls Try.prog 32 #[.slice (some ⟨W.heap.size, 0, none⟩) 1 1] (W.alloc (.cells #[.slice A n c] T)) fun e w' => e = .returned (.int .u32 (moreV 1 zs)) ∧ Below (W.heap.size + 1) (W.alloc (.cells #[.slice A n c] T)) w' := fun W hW T => by
    have h := smAdler _ 1 1 _ _ _ _ _ (by have := parts_one W W.heap.size n c A zs hW (Nat.le_refl _) T; rw [show W.heap.size + 1 = (W.alloc (.cells #[.slice A n c] T)).heap.size by simp] at this; exact this) (by omega) (fun i hi => by show n ≤ _; omega)
    have e : catZ (one zs) 1 = zs := by simp [catZ, one]
    rw [e] at h
    simpa using h
  unfold zlibS bodyS
  obtain ⟨V, hV⟩ : ∃ V, moreV 1 zs = V := ⟨_, rfl⟩
  rw [hV] at had hmv ⊢
  have HAD := Lib.hid had
  obtain ⟨FX, hFX⟩ : ∃ FX, fixedS zs = FX := ⟨_, rfl⟩
  obtain ⟨ST, hST⟩ : ∃ ST, joinZ [zs] = ST := ⟨_, rfl⟩
  rw [hFX] at HFX hfl ⊢
  rw [hST] at HST hj1 ⊢
  obtain ⟨p, hp⟩ : ∃ p, FX.length = p := ⟨_, rfl⟩
  obtain ⟨q, hq⟩ : ∃ q, ST.length = q := ⟨_, rfl⟩
  rw [hp] at HFX hfl ⊢
  rw [hq] at HST hj1 ⊢
  have HP := Lib.hid hp
  have HQ := Lib.hid hq
  have HB0 := Lib.hid hb
  have hq5 : q ≤ n + 5 := by omega
  have hp5 : p ≤ 600000 := by omega
  have hp6 : ¬ q ≤ p → p ≤ 200000 := by omega
  clear hb hst had hV hFX hST hp hq hj1 hfl
  by_cases hle : q ≤ p
  · rw [if_pos hle]
    have hlei : (q : Int) ≤ p := by omega
    go_enter Try.func16, Try.ntmps16
    go_upto_region 6 with (first
      | (go_at_call 15; refine (HFX.out _ HB0.out).mono ?_; (rintro r w1 ⟨v1, rfl, hm1, hb1⟩); obtain ⟨A1, c1, rfl, _⟩ := hm1.byt; have HM1 := Lib.hid hm1; have HB1 := Lib.hid hb1; clear hm1 hb1)
      | (go_at_call 14; refine (HST.out _ (HBY.out _ HB1.out)).mono ?_; (rintro r w2 ⟨v2, rfl, hm2, hb2⟩); obtain ⟨A2, c2, rfl, _⟩ := hm2.byt; have HM2 := Lib.hid (hm2.base HB1.out.size); have HB2 := Lib.hid (HB1.out.trans (hb2.mono HB1.out.size)); clear hm2 hb2)
      | (go_at_call 32; refine (HAD.out _ (HBY.out _ HB2.out) _).mono ?_; (rintro r w3 ⟨rfl, hb3⟩); have HB3 := Lib.hid ((HB2.out.alloc HB2.out.size _).trans (hb3.mono (Nat.le_succ_of_le HB2.out.size))); have HM3 := Lib.hid ((HM2.out.kept ((Below.refl _ _).alloc (Nat.le_refl _) _)).kept (hb3.mono (by simp))); clear hb3))
    obtain ⟨Ax, cx, ex, hby⟩ := HM3.out.byt
    injection ex with e1 e2 e3
    subst e1 e3
    have HCT := Lib.hid (catC w3 w.heap.size HB3.out.size _ _ _ _ hby (by first | omega | exact hp6 hle) V hmv.1 hmv.2)
    clear e2 hby hp6
    go_wp2_with (go_at_call 33; refine HCT.out.mono ?_; (rintro r w4 ⟨v4, rfl, hm4, hb4⟩); have HM4 := Lib.hid hm4; have HB4 := Lib.hid (HB3.out.trans hb4); clear hm4 hb4)
    go_ret
    exact ⟨_, rfl, HM4.out, HB4.out⟩
  · rw [if_neg hle]
    have hlei : ¬ (q : Int) ≤ p := by omega
    go_enter Try.func16, Try.ntmps16
    go_upto_region 6 with (first
      | (go_at_call 15; refine (HFX.out _ HB0.out).mono ?_; (rintro r w1 ⟨v1, rfl, hm1, hb1⟩); obtain ⟨A1, c1, rfl, _⟩ := hm1.byt; have HM1 := Lib.hid hm1; have HB1 := Lib.hid hb1; clear hm1 hb1)
      | (go_at_call 14; refine (HST.out _ (HBY.out _ HB1.out)).mono ?_; (rintro r w2 ⟨v2, rfl, hm2, hb2⟩); obtain ⟨A2, c2, rfl, _⟩ := hm2.byt; have HM2 := Lib.hid (HM1.out.kept hb2); have HB2 := Lib.hid (HB1.out.trans (hb2.mono HB1.out.size)); clear hm2 hb2)
      | (go_at_call 32; refine (HAD.out _ (HBY.out _ HB2.out) _).mono ?_; (rintro r w3 ⟨rfl, hb3⟩); have HB3 := Lib.hid ((HB2.out.alloc HB2.out.size _).trans (hb3.mono (Nat.le_succ_of_le HB2.out.size))); have HM3 := Lib.hid ((HM2.out.kept ((Below.refl _ _).alloc (Nat.le_refl _) _)).kept (hb3.mono (by simp))); clear hb3))
    obtain ⟨Ax, cx, ex, hby⟩ := HM3.out.byt
    injection ex with e1 e2 e3
    subst e1 e3
    have HCT := Lib.hid (catC w3 w.heap.size HB3.out.size _ _ _ _ hby (by first | omega | exact hp6 hle) V hmv.1 hmv.2)
    clear e2 hby hp6
    go_wp2_with (go_at_call 33; refine HCT.out.mono ?_; (rintro r w4 ⟨v4, rfl, hm4, hb4⟩); have HM4 := Lib.hid hm4; have HB4 := Lib.hid (HB3.out.trans hb4); clear hm4 hb4)
    go_ret
    exact ⟨_, rfl, HM4.out, HB4.out⟩
end Go.Proofs.Ytginbilakdenmaa
