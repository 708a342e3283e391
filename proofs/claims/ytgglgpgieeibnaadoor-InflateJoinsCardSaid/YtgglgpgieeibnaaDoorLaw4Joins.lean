/- InflateJoins: blocks that follow one another, none of them the last one but the last, are one stream; what stands behind the last one is not read. No condition on the input. -/
import Derived.Test.YtgglgpgieeibnaaDoorLaw4Do
import Derived.Test.YtgglgpgieeibnaaDoorRef4Join
import Derived.Test.YtgglgpgieeibnaaDoorRow5
namespace Go.Proofs.YtgglgpgieeibnaaDoor
open Go.ChangeShapes Go.WideShapes Go.ChangeAt Go.RowKit Go.Deep
set_option linter.unusedVariables false
set_option maxRecDepth 100000

def hdZ (last : Int) (n : Nat) : List Int := [last, ((n % 256 : Nat) : Int), ((n / 256 : Nat) : Int), 255 - ((n % 256 : Nat) : Int), 255 - ((n / 256 : Nat) : Int)]
/-- The first k blocks of n. -/
def preZ (Z : Nat → List Int) (n : Nat) : Nat → List Int
  | 0 => []
  | k + 1 => preZ Z n k ++ hdZ (if k + 1 = n then 1 else 0) (Z k).length ++ Z k
theorem joinZ_cons (l : List Int) (r : List (List Int)) (hr : r ≠ []) : joinZ (l :: r) = hdZ 0 l.length ++ l ++ joinZ r := by
  cases r with
  | nil => exact absurd rfl hr
  | cons a r => rfl
theorem joinZ_pre (Z : Nat → List Int) (n : Nat) : ∀ (j k : Nat), k + j + 1 = n → preZ Z n k ++ joinZ ((List.range' k (j + 1)).map Z) = preZ Z n n
  | 0, k, h => by
    subst h
    show preZ Z (k + 1) k ++ joinZ [Z k] = preZ Z (k + 1) (k + 1)
    rw [preZ, if_pos rfl, List.append_assoc]
    rfl
  | j + 1, k, h => by
    rw [List.range'_succ, List.map_cons, joinZ_cons _ _ (by simp), ← joinZ_pre Z n j (k + 1) (by omega), preZ, if_neg (by omega)]
    simp
theorem preZ_join (Z : Nat → List Int) (n : Nat) (hn : 1 ≤ n) : preZ Z n n = joinZ ((List.range' 0 n).map Z) := by
  obtain ⟨j, rfl⟩ : ∃ j, n = j + 1 := ⟨n - 1, by omega⟩
  rw [← joinZ_pre Z (j + 1) j 0 (by omega)]
  rfl
theorem catZ_flat (Z : Nat → List Int) : ∀ n, catZ Z n = ((List.range' 0 n).map Z).flatten
  | 0 => rfl
  | n + 1 => by rw [catZ, catZ_flat Z n, List.range'_concat]; simp
theorem preZ_len (Z : Nat → List Int) (n : Nat) : ∀ k, (∀ i, i < k → (Z i).length ≤ 300) → (preZ Z n k).length ≤ 305 * k
  | 0, _ => Nat.zero_le _
  | k + 1, h => by
    have h1 := preZ_len Z n k (fun i hi => h i (by omega))
    have h2 := h k (by omega)
    simp only [preZ, List.length_append, hdZ, List.length_cons, List.length_nil]
    omega
theorem catZ_300 (Z : Nat → List Int) : ∀ k, (∀ i, i < k → (Z i).length ≤ 300) → (catZ Z k).length ≤ 300 * k
  | 0, _ => by simp [catZ]
  | k + 1, h => by
    have h1 := catZ_300 Z k (fun i hi => h i (by omega))
    have h2 := h k (by omega)
    simp only [catZ, List.length_append]
    omega

set_option maxRecDepth 100000 in
set_option maxHeartbeats 4000000 in
theorem joins_walk (A : Option Addr) (n c : Nat) (As : Nat → Option Addr) (Ns Cs : Nat → Nat) (Z : Nat → List Int) (B : Option Addr) (m d : Nat) (ys : List Int) (w : World) (ho : Ord w) (hp : Parts w w.heap.size A n As Ns Cs Z) (hn : n ≤ 9223372036854775807) (hns : ∀ i, i < n → Ns i ≤ 9223372036854775807) (hy : Byt w w.heap.size B m d ys) (hm : m ≤ 9223372036854775807) :
    Calls Tryd.prog 9 #[.slice A n c, .slice B m d] w fun e w' => e = .returned (.bool true) ∧ Below w.heap.size w w' := by
  have HAW := Lib.hid (awake_any w ho)
  have HO := Lib.hid (fun W (hW : Below w.heap.size w W) => ho.below hW (Nat.le_refl _))
  have HP := Lib.hid hp
  have HY := Lib.hid hy
  have HNS := Lib.hid hns
  clear hp hy hns
  by_cases hok : n ≤ 20 ∧ n ≠ 0 ∧ m ≤ 50
  · obtain ⟨hn20, hn0, hm50⟩ := hok
    have hnb : ((n : Int) == 0) = false := beq_eq_false_iff_ne.2 (by omega)
    go_enter Tryd.func9, Tryd.ntmps9
    go_wp2_with (go_at_call 10; refine HAW.out.mono ?_; rintro e w1 ⟨rfl, hb1⟩; have HB1 := Lib.hid hb1; clear hb1)
    go_loopw [5, 6, 7] (fun vb vw iv wr => ∃ (k : Nat), k ≤ n ∧ iv = .int .i64 k ∧ Hid (Mine wr w.heap.size vb (preZ Z n k).length (preZ Z n k)) ∧ Hid (Mine wr w.heap.size vw (catZ Z k).length (catZ Z k)) ∧ Hid (∀ b, vb.ownBlock = some b → vw.ownBlock ≠ some b) ∧ Hid (Below w.heap.size w wr) ∧ Hid (∀ i, i < k → (Z i).length ≤ 300)) (fun _ _ iv _ => n - (intOf iv).toNat)
    case atStart => exact ⟨0, Nat.zero_le _, rfl, Lib.hid (Mine.nil _ _), Lib.hid (Mine.nil _ _), Lib.hid (fun b hb => by cases hb), HB1, Lib.hid (fun i hi => absurd hi (by omega))⟩
    case round =>
      obtain ⟨k, hk, rfl, HMB, HMW, HAP, HBL, H300⟩ := hrel
      by_cases hlt : k < n
      · have hp' := HP.out.below HBL.out (Nat.le_refl _)
        obtain ⟨bb, o, rfl, hlb, hc⟩ := hp'.cell (by omega)
        have ck := hc k hlt
        have hby := hp'.byt k hlt
        have HLB := Lib.hid hlb
        have HLR := Lib.hid (Nat.lt_of_lt_of_le hlb HBL.out.size)
        have HBY := Lib.hid hby
        have hzl := hby.len
        have hnsk := HNS.out k hlt
        obtain ⟨L, hL⟩ : ∃ L, Ns k = L := ⟨_, rfl⟩
        rw [hL] at ck hzl HBY hnsk
        have HCK := Lib.hid ck
        have HZB : Hid (∀ W, Below w.heap.size w W → Byt W w.heap.size (As k) L (Cs k) (Z k)) := Lib.hid (fun W hW => hL ▸ (HP.out.below hW (Nat.le_refl _)).byt k hlt)
        have HZL := Lib.hid hzl
        clear hc hby hp' hL hzl hlb
        by_cases hL3 : L ≤ 300
        · obtain ⟨Ab, cb, hvb, _⟩ := HMB.out.byt
          obtain ⟨Aw, cw, hvw, _⟩ := HMW.out.byt
          subst hvb hvw
          obtain ⟨Y, hY⟩ : ∃ Y : Int, bits .xor .i64 (-1) (L : Int) = Y := ⟨_, rfl⟩
          have hYv : Y = -(L : Int) - 1 := by rw [← hY]; exact not_int L (by omega)
          have hY2 : bits .xor .i64 (if IntKind.i64.signed = true then (-1) else 9223372036854775807) (L : Int) = Y := hY
          obtain ⟨V1, hV1⟩ : ∃ V : Int, (L : Int) % 256 = V := ⟨_, rfl⟩
          obtain ⟨V2, hV2⟩ : ∃ V : Int, (L : Int) / 256 = V := ⟨_, rfl⟩
          obtain ⟨V3, hV3⟩ : ∃ V : Int, Y % 256 = V := ⟨_, rfl⟩
          obtain ⟨V4, hV4⟩ : ∃ V : Int, Y / 256 % 256 = V := ⟨_, rfl⟩
          have hhd : ∀ la : Int, [la, V1, V2, V3, V4] = hdZ la L := fun la => by
            unfold hdZ
            rw [show V1 = ((L % 256 : Nat) : Int) by omega, show V2 = ((L / 256 : Nat) : Int) by omega, show V3 = 255 - ((L % 256 : Nat) : Int) by omega, show V4 = 255 - ((L / 256 : Nat) : Int) by omega]
          have HHD := Lib.hid hhd
          have hrg : ∀ la : Int, 0 ≤ la → la ≤ 1 → ∀ z ∈ [la, V1, V2, V3, V4], 0 ≤ z ∧ z < 256 := fun la h0 h1 z hz => by
            simp at hz
            rcases hz with rfl | rfl | rfl | rfl | rfl <;> omega
          have HPL := Lib.hid (preZ_len Z n k H300.out)
          have HCL := Lib.hid (catZ_300 Z k H300.out)
          obtain ⟨la, hla⟩ : ∃ la : Int, (if k + 1 = n then 1 else 0) = la := ⟨_, rfl⟩
          have hla01 : la = 0 ∨ la = 1 := by rw [← hla]; split <;> simp
          have HA1 := Lib.hid ((HMB.out.kept ((Below.refl _ _).alloc (Nat.le_refl _) (.cells #[.int .u8 la, .int .u8 V1, .int .u8 V2, .int .u8 V3, .int .u8 V4] 5))).appendT (byt_lit wr (0, 0) [la, V1, V2, V3, V4] (hrg la (by omega) (by omega)) 5 rfl _ rfl) 23 (by have := HPL.out; omega) (by have := HBL.out.size; simp; omega))
          have HPS : Hid (preZ Z n (k + 1) = preZ Z n k ++ [la, V1, V2, V3, V4] ++ Z k) := Lib.hid (by rw [preZ, hla, HZL.out, HHD.out])
          have HCS : Hid (catZ Z (k + 1) = catZ Z k ++ Z k) := Lib.hid rfl
          clear hhd hrg hYv
          have hlc : ((k : Int) == (n : Int) - 1) = decide (la = 1) := by
            by_cases h : k + 1 = n
            · rw [if_pos h] at hla
              rw [beq_iff_eq.2 (by omega : (k : Int) = (n : Int) - 1), ← hla]
              rfl
            · rw [if_neg h] at hla
              rw [beq_eq_false_iff_ne.2 (by omega : ¬ (k : Int) = (n : Int) - 1), ← hla]
              rfl
          clear hla
          rcases hla01 with h | h
          · subst h
            go_wp2_with (first
              | (at_builtin; obtain ⟨v6, w6, hrun, hmi6, hbe6, hbl6, hsz6, hwn6⟩ := HA1.out; obtain ⟨A6, c6, rfl, _⟩ := hmi6.byt; refine Lib.wpList_append_run_sl _ rfl (.tmp 46) (.tmp 60) 23 rfl _ _ rfl rfl hrun ?_; clear hrun; have HBW6 : Hid (Below w.heap.size w w6) := Lib.hid ((HBL.out.trans (((Below.refl wr.heap.size wr).alloc (Nat.le_refl _) _).mono HBL.out.size)).trans hbe6); have HM6 := Lib.hid hmi6; have HW6 : Hid (Mine w6 w.heap.size (.slice Aw (catZ Z k).length cw) (catZ Z k).length (catZ Z k)) := Lib.hid (HMW.out.same fun b hb hlt => (hbl6 b (by simp; omega) (fun e => HAP.out b e hb)).trans (((Below.refl wr.heap.size wr).alloc (Nat.le_refl _) _).block b hlt)); have HAP6 : Hid (∀ b, (Value.slice A6 ((preZ Z n k).length + 5) c6).ownBlock = some b → (Value.slice Aw (catZ Z k).length cw).ownBlock ≠ some b) := Lib.hid (fun b hb e => by rcases hwn6 b hb with h | h; exact HAP.out b h e; have := HMW.out.lt b e; simp at h; omega); have hp6 := HP.out.below HBW6.out (Nat.le_refl _); have ck6 := (hbe6.cell (p := ⟨bb, o + k, none⟩) HLB.out).trans ((((Below.refl wr.heap.size wr).alloc (Nat.le_refl _) _).cell (p := ⟨bb, o + k, none⟩) HLR.out).trans HCK.out); have HA2 := Lib.hid (hmi6.appendT (HZB.out _ HBW6.out) 23 (by have := HPL.out; omega) (by have := HBW6.out.size; omega)); clear hmi6 hbe6 hbl6 hsz6 hwn6 hp6)
              | (at_builtin; obtain ⟨v7, w7, hrun, hmi7, hbe7, hbl7, hsz7, hwn7⟩ := HA2.out; obtain ⟨A7, c7, rfl, _⟩ := hmi7.byt; refine Lib.wpList_append_run_sl _ rfl (.tmp 62) (.tmp 66) 23 rfl _ _ rfl rfl hrun ?_; clear hrun; have HBW7 : Hid (Below w.heap.size w w7) := Lib.hid (HBW6.out.trans hbe7); have HM7 := Lib.hid hmi7; have HW7 : Hid (Mine w7 w.heap.size (.slice Aw (catZ Z k).length cw) (catZ Z k).length (catZ Z k)) := Lib.hid (HW6.out.same fun b hb hlt => hbl7 b hlt (fun e => HAP6.out b e hb)); have HAP7 : Hid (∀ b, (Value.slice A7 ((preZ Z n k).length + 5 + L) c7).ownBlock = some b → (Value.slice Aw (catZ Z k).length cw).ownBlock ≠ some b) := Lib.hid (fun b hb e => by rcases hwn7 b hb with h | h; exact HAP6.out b h e; have := HW6.out.lt b e; omega); have ck7 := (hbe7.cell (p := ⟨bb, o + k, none⟩) HLB.out).trans ck6; have HA3 := Lib.hid (HW7.out.appendT (HZB.out _ HBW7.out) 23 (by have := HCL.out; omega) (by have := HBW7.out.size; omega)); clear hmi7 hbe7 hbl7 hsz7 hwn7)
              | (at_builtin; obtain ⟨v8, w8, hrun, hmi8, hbe8, hbl8, hsz8, hwn8⟩ := HA3.out; obtain ⟨A8, c8, rfl, _⟩ := hmi8.byt; refine Lib.wpList_append_run_sl _ rfl (.tmp 68) (.tmp 72) 23 rfl _ _ rfl rfl hrun ?_; clear hrun; have HBW8 : Hid (Below w.heap.size w w8) := Lib.hid (HBW7.out.trans hbe8); have HW8 := Lib.hid hmi8; have HM8 : Hid (Mine w8 w.heap.size (.slice A7 ((preZ Z n k).length + 5 + L) c7) ((preZ Z n k).length + 5 + L) (preZ Z n k ++ [0, V1, V2, V3, V4] ++ Z k)) := Lib.hid (HM7.out.same fun b hb hlt => hbl8 b hlt (fun e => HAP7.out b hb e)); have HAP8 : Hid (∀ b, (Value.slice A7 ((preZ Z n k).length + 5 + L) c7).ownBlock = some b → (Value.slice A8 ((catZ Z k).length + L) c8).ownBlock ≠ some b) := Lib.hid (fun b hb e => by rcases hwn8 b e with h | h; exact HAP7.out b hb h; have := HM7.out.lt b hb; omega); clear hmi8 hbe8 hbl8 hsz8 hwn8))
            go_roundw
            case rel => exact ⟨k + 1, by omega, by go_num, Lib.hid (HM8.out.recast HPS.out.symm), Lib.hid (HW8.out.recast HCS.out.symm), HAP8, HBW8, Lib.hid (fun i hi => by
              rcases Nat.lt_or_ge i k with h | h
              · exact H300.out i h
              · obtain rfl : i = k := by omega
                rw [HZL.out]; exact hL3)⟩
            case measure => simp [intOf]; omega
          · subst h
            go_wp2_with (first
              | (at_builtin; obtain ⟨v6, w6, hrun, hmi6, hbe6, hbl6, hsz6, hwn6⟩ := HA1.out; obtain ⟨A6, c6, rfl, _⟩ := hmi6.byt; refine Lib.wpList_append_run_sl _ rfl (.tmp 46) (.tmp 60) 23 rfl _ _ rfl rfl hrun ?_; clear hrun; have HBW6 : Hid (Below w.heap.size w w6) := Lib.hid ((HBL.out.trans (((Below.refl wr.heap.size wr).alloc (Nat.le_refl _) _).mono HBL.out.size)).trans hbe6); have HM6 := Lib.hid hmi6; have HW6 : Hid (Mine w6 w.heap.size (.slice Aw (catZ Z k).length cw) (catZ Z k).length (catZ Z k)) := Lib.hid (HMW.out.same fun b hb hlt => (hbl6 b (by simp; omega) (fun e => HAP.out b e hb)).trans (((Below.refl wr.heap.size wr).alloc (Nat.le_refl _) _).block b hlt)); have HAP6 : Hid (∀ b, (Value.slice A6 ((preZ Z n k).length + 5) c6).ownBlock = some b → (Value.slice Aw (catZ Z k).length cw).ownBlock ≠ some b) := Lib.hid (fun b hb e => by rcases hwn6 b hb with h | h; exact HAP.out b h e; have := HMW.out.lt b e; simp at h; omega); have hp6 := HP.out.below HBW6.out (Nat.le_refl _); have ck6 := (hbe6.cell (p := ⟨bb, o + k, none⟩) HLB.out).trans ((((Below.refl wr.heap.size wr).alloc (Nat.le_refl _) _).cell (p := ⟨bb, o + k, none⟩) HLR.out).trans HCK.out); have HA2 := Lib.hid (hmi6.appendT (HZB.out _ HBW6.out) 23 (by have := HPL.out; omega) (by have := HBW6.out.size; omega)); clear hmi6 hbe6 hbl6 hsz6 hwn6 hp6)
              | (at_builtin; obtain ⟨v7, w7, hrun, hmi7, hbe7, hbl7, hsz7, hwn7⟩ := HA2.out; obtain ⟨A7, c7, rfl, _⟩ := hmi7.byt; refine Lib.wpList_append_run_sl _ rfl (.tmp 62) (.tmp 66) 23 rfl _ _ rfl rfl hrun ?_; clear hrun; have HBW7 : Hid (Below w.heap.size w w7) := Lib.hid (HBW6.out.trans hbe7); have HM7 := Lib.hid hmi7; have HW7 : Hid (Mine w7 w.heap.size (.slice Aw (catZ Z k).length cw) (catZ Z k).length (catZ Z k)) := Lib.hid (HW6.out.same fun b hb hlt => hbl7 b hlt (fun e => HAP6.out b e hb)); have HAP7 : Hid (∀ b, (Value.slice A7 ((preZ Z n k).length + 5 + L) c7).ownBlock = some b → (Value.slice Aw (catZ Z k).length cw).ownBlock ≠ some b) := Lib.hid (fun b hb e => by rcases hwn7 b hb with h | h; exact HAP6.out b h e; have := HW6.out.lt b e; omega); have ck7 := (hbe7.cell (p := ⟨bb, o + k, none⟩) HLB.out).trans ck6; have HA3 := Lib.hid (HW7.out.appendT (HZB.out _ HBW7.out) 23 (by have := HCL.out; omega) (by have := HBW7.out.size; omega)); clear hmi7 hbe7 hbl7 hsz7 hwn7)
              | (at_builtin; obtain ⟨v8, w8, hrun, hmi8, hbe8, hbl8, hsz8, hwn8⟩ := HA3.out; obtain ⟨A8, c8, rfl, _⟩ := hmi8.byt; refine Lib.wpList_append_run_sl _ rfl (.tmp 68) (.tmp 72) 23 rfl _ _ rfl rfl hrun ?_; clear hrun; have HBW8 : Hid (Below w.heap.size w w8) := Lib.hid (HBW7.out.trans hbe8); have HW8 := Lib.hid hmi8; have HM8 : Hid (Mine w8 w.heap.size (.slice A7 ((preZ Z n k).length + 5 + L) c7) ((preZ Z n k).length + 5 + L) (preZ Z n k ++ [1, V1, V2, V3, V4] ++ Z k)) := Lib.hid (HM7.out.same fun b hb hlt => hbl8 b hlt (fun e => HAP7.out b hb e)); have HAP8 : Hid (∀ b, (Value.slice A7 ((preZ Z n k).length + 5 + L) c7).ownBlock = some b → (Value.slice A8 ((catZ Z k).length + L) c8).ownBlock ≠ some b) := Lib.hid (fun b hb e => by rcases hwn8 b e with h | h; exact HAP7.out b hb h; have := HM7.out.lt b hb; omega); clear hmi8 hbe8 hbl8 hsz8 hwn8))
            go_roundw
            case rel => exact ⟨k + 1, by omega, by go_num, Lib.hid (HM8.out.recast HPS.out.symm), Lib.hid (HW8.out.recast HCS.out.symm), HAP8, HBW8, Lib.hid (fun i hi => by
              rcases Nat.lt_or_ge i k with h | h
              · exact H300.out i h
              · obtain rfl : i = k := by omega
                rw [HZL.out]; exact hL3)⟩
            case measure => simp [intOf]; omega
        · go_wp2
          go_ret
          exact ⟨rfl, HBL.out⟩
      · obtain rfl : k = n := by omega
        obtain ⟨Ab, cb, hvb, hbb⟩ := HMB.out.byt
        obtain ⟨Aw, cw, hvw, hbw⟩ := HMW.out.byt
        subst hvb hvw
        have hjoin := preZ_join Z k (by omega)
        have hflat := catZ_flat Z k
        have hPL := preZ_len Z k k H300.out
        have hCL := catZ_300 Z k H300.out
        have hby : Bys (preZ Z k k ++ ys) := bys_of _ (fun z hz => by
          rcases List.mem_append.1 hz with h | h
          · exact HMB.out.rng z h
          · exact HY.out.rng z h)
        have hbl : blocksS (preZ Z k k ++ ys) (catZ Z k).length = (catZ Z k, (preZ Z k k).length, 0) := by
          have h := blocks_join (preZ Z k k ++ ys) (catZ Z k).length hby ((List.range' 0 k).map Z) 0 (8 * (preZ Z k k ++ ys).length + 1) [] ys (by intro he; have := congrArg List.length he; simp at this; omega)
            (fun l hl => by
              obtain ⟨i, hi, rfl⟩ := List.mem_map.1 hl
              have := H300.out i (by simp at hi; omega)
              omega) (by rw [← hjoin]; rfl) (by rw [← hflat]; simp) (by omega)
          rw [← hflat, ← hjoin] at h
          unfold blocksS
          rw [show (0 : Nat) = 8 * 0 from rfl, h]
          simp
        obtain ⟨P, hPv⟩ : ∃ P, preZ Z k k = P := ⟨_, rfl⟩
        obtain ⟨Q, hQv⟩ : ∃ Q, catZ Z k = Q := ⟨_, rfl⟩
        rw [hPv] at hbl hPL hbb HMB ⊢
        rw [hQv] at hbl hCL hbw HMW ⊢
        have HCP := Lib.hid (refCopy Ab P.length cb P wr hbb (by omega))
        have HWB := Lib.hid hbw
        have HCL := Lib.hid hCL
        have HPL := Lib.hid hPL
        have HIN := Lib.hid (fun W A10 c10 (h : Byt W W.heap.size A10 (P.length + m) c10 (P ++ ys)) (hO : Ord W) => hbl ▸ inBlocks A10 (P.length + m) c10 Q.length Q.length (P ++ ys) W h hO (by omega) (by omega) (by omega) (by omega))
        clear hjoin hflat hPL hCL hby hbl hPv hQv hbb hbw
        go_wp2_with (first
          | (go_at_call 25; refine HCP.out.mono ?_; rintro e w9 ⟨v9, rfl, hm9, hb9⟩; obtain ⟨A9, c9, rfl, _⟩ := hm9.byt; have HB9 := Lib.hid hb9; have HBW9 : Hid (Below w.heap.size w w9) := Lib.hid (HBL.out.trans (hb9.mono HBL.out.size)); have HA9 := Lib.hid (hm9.appendT (HY.out.below HBW9.out (Nat.le_refl _)) 23 (by have := HPL.out; omega) HB9.out.size); clear hm9 hb9)
          | (at_builtin; obtain ⟨v10, w10, hrun, hm10, hb10, _, _, _⟩ := HA9.out; obtain ⟨A10, c10, rfl, hy10⟩ := hm10.byt; refine Lib.wpList_append_run_sl _ rfl (.tmp 76) (.tmp 77) 23 rfl _ _ rfl rfl hrun ?_; clear hrun; have HY10 := Lib.hid hy10; have HB10 := Lib.hid (HB9.out.trans hb10); clear hm10 hb10 hy10)
          | (go_at_call 11; refine (HIN.out _ _ _ HY10.out (HO.out _ (HBL.out.trans (HB10.out.mono HBL.out.size)))).mono ?_; rintro e w11 ⟨A11, c11, rfl, hy11, hl11, hb11⟩; have HY11 := Lib.hid hy11; have HL11 := Lib.hid hl11; have HB11 := Lib.hid (HB10.out.trans (hb11.mono HB10.out.size)); clear hy11 hl11 hb11)
          | (go_at_call 22; refine (refSame_yes A11 Aw _ c11 _ cw _ _ _ HY11.out (HWB.out.below HB11.out (Nat.le_refl _)) HL11.out).mono ?_; rintro e w12 ⟨rfl, q12, rfl⟩; dsimp only))
        go_ret
        exact ⟨by simp, below_drewN (HBL.out.trans (HB11.out.mono HBL.out.size)) _⟩
  · have hcs : 20 < n ∨ (n ≤ 20 ∧ n = 0) ∨ (n ≤ 20 ∧ n ≠ 0 ∧ 50 < m) := by omega
    rcases hcs with h | ⟨h, h0⟩ | ⟨h, h0, h50⟩
    · go_enter Tryd.func9, Tryd.ntmps9
      go_wp2_with (go_at_call 10; refine HAW.out.mono ?_; rintro e w1 ⟨rfl, hb1⟩)
      go_ret
      exact ⟨rfl, hb1⟩
    · subst h0
      go_enter Tryd.func9, Tryd.ntmps9
      go_wp2_with (go_at_call 10; refine HAW.out.mono ?_; rintro e w1 ⟨rfl, hb1⟩)
      go_ret
      exact ⟨rfl, hb1⟩
    · have hnb : ((n : Int) == 0) = false := beq_eq_false_iff_ne.2 (by omega)
      go_enter Tryd.func9, Tryd.ntmps9
      go_wp2_with (go_at_call 10; refine HAW.out.mono ?_; rintro e w1 ⟨rfl, hb1⟩)
      go_ret
      exact ⟨rfl, hb1⟩

set_option maxRecDepth 100000 in
theorem joins_lifted (os : Os) (started : os.Started) (H : Type) (enc : TypeId × Value → H) :
    ReturnsInHanded {} Tryd.checked os 9 .any (fun w args => (Rows.inflateJoinsSpec.pre enc Tryd.prog Tryd.f9 Rows.inflateJoinsRow.domain false w args ∧ laidMetH Tryd.prog Rows.inflateJoinsRow.laid w) ∧ sizedMet enc Tryd.prog Tryd.f9 (OpenSpec.ofChange Rows.inflateJoinsSpec) false w args) (Rows.inflateJoinsSpec.post enc Tryd.prog Tryd.f9 false true false false) := by
  refine returnsInHanded_of_change_and (C := Tryd.checked) (X := fun w _ => laidMetH Tryd.prog Rows.inflateJoinsRow.laid w) (fun _ _ _ hh h => h.of_heap hh) own started (by kernel_rfl) Tryd.func9
    (ChangeSpec.witness_shaped (enc := enc) (C := Tryd.checked) (os := os) (X := fun w _ => laidMetH Tryd.prog Rows.inflateJoinsRow.laid w) false (World.laidAll Tryd.prog os Rows.inflateJoinsRow.laid) #[.slice none 0 0, .slice none 0 0] 8 (World.laidAll_os _ _ _)
      (World.shaped_of_ZipB (by kernel_rfl) (by kernel_rfl)) (by kernel_rfl) (by kernel_rfl) (by kernel_rfl)
      (by rw [MakeChecks.laidMetH_plain _ _ _ (by kernel_rfl)]; exact laidMet_laidAll _ (by kernel_rfl) (by kernel_rfl))) ?_
  intro W base args ds gs before hval0 hW hcnd _ hL _
  have hord : Ord W := ord_of_laid hL
  clear hL
  have hval : ∀ (j : Nat) t v, Tryd.f9.params[j]? = some t → args[j]? = some v → Value.okWide Tryd.prog W .any base t v := hval0
  have hW' := hW
  obtain ⟨p, q, hA0, hV, rfl, hfz, hnd⟩ := hW
  have hA : DataW.TrodAll enc Tryd.prog W 0 (fun _ => true) true Tryd.f9.params.toList args.toList ds p := hA0
  rw [Tryd.params9] at hA hval
  obtain ⟨v0, vs0, d0, ds0, p0, q0, hargs, rfl, rfl, h0, r0⟩ := trodAll_cons hA
  obtain ⟨v1, vs1, d1, ds1, p1, q1, rfl, rfl, rfl, h1, r1⟩ := trodAll_cons r0
  obtain ⟨rfl, rfl, rfl⟩ := trodAll_nil r1
  obtain rfl : args = #[v0, v1] := by cases args; simp_all
  obtain ⟨rfl, rfl⟩ := trodVars_none hV
  obtain ⟨a0, len0, cap0, rfl⟩ := okWide_slice Tryd.underlying47 (hval 0 47 v0 rfl rfl)
  obtain ⟨As0, Ns0, Cs0, Z0, hln0, hpt0, hns0⟩ := open_parts h0 (fun _ => rfl)
  have lt0 : ∀ x ∈ p0, x.block < W.heap.size := by obtain ⟨m, hm⟩ := h0; exact DataW.trod_lt m _ _ _ hm
  obtain ⟨a1, len1, cap1, rfl⟩ := okWide_slice Tryd.underlying23 (hval 1 23 v1 rfl rfl)
  obtain ⟨zs1, hz1, hcm1⟩ := open_bytes h1 (fun _ => rfl)
  have lt1 : ∀ x ∈ p1, x.block < W.heap.size := by obtain ⟨m, hm⟩ := h1; exact DataW.trod_lt m _ _ _ hm
  have hmx : maxLen = 9223372036854775807 := by decide
  clear hA0 hval0
  refine (joins_walk a0 len0 cap0 As0 Ns0 Cs0 Z0 a1 len1 cap1 zs1 W hord hpt0 hln0 hns0 hz1 (by have := hz1.cap; omega)).mono fun e W' ⟨he, bel⟩ => ?_
  subst he
  exact ⟨_, rfl, _, _, _, [], _, [], hW', trodAll_mk1 (shut_bool Tryd.underlying4 _), (trodAll_cons_mk (Below.trod laidOut (by kernel_rfl) (of_decide_eq_true (by kernel_rfl)) h0 bel lt0) (trodAll_cons_mk (Below.trod laidOut (by kernel_rfl) (of_decide_eq_true (by kernel_rfl)) h1 bel lt1) trodAll_mk0)), rfl, bel.frame _, fun h => by cases h⟩

/-- InflateJoins: it answers true. -/
theorem joins_holds : Rows.InflateJoinsSaid :=
  OpenClaim.holds_of_wide 9 Tryd.f9 rfl rfl rfl rfl rfl rfl rfl ⟨rfl, rfl, rfl, rfl, rfl⟩ rfl rfl rfl rfl rfl (by kernel_rfl) Tryd.func9 (by kernel_rfl)
    (of_decide_eq_true (by kernel_rfl)) (by unfold Func.isWrapper; first | (rw [if_pos (by decide +kernel)]; kernel_rfl) | (rw [if_neg (by decide +kernel)]; exact ⟨rfl, rfl⟩))
    (fun os started H enc _ => joins_lifted os started H enc)
/-- The card of InflateJoins: what its row lists is tied to the program's text. -/
theorem joins_card : Rows.InflateJoinsCardSaid :=
  Claim7.holds_tied_plain_at .later [] [.data] true Rows.inflateJoinsCard.stood.harness false joins_holds (fun _ h => by cases h) (by kernel_rfl) (fun _ h => by cases h) inflateJoins_row_tie rfl ⟨rfl, rfl⟩ (by kernel_rfl) rfl
    (fun f fn hf hfn => by
      obtain rfl : f = 9 := Option.some.inj ((show Tryd.prog.funcNamed "pressmark/pressmarklaw4.InflateJoins" = some 9 by kernel_rfl).symm.trans hf) |>.symm
      obtain rfl : fn = Tryd.f9 := (Option.some.inj (Tryd.func9.symm.trans hfn)).symm
      exact ⟨by kernel_rfl, fun j t ht => by
        rw [Tryd.params9] at ht
        have hm : t ∈ [47, 23] := by simpa using Array.mem_of_getElem? ht
        have hall : ([47, 23].all fun u => !Tryd.prog.wantsStandIn u) = true := by kernel_rfl
        exact (show Tryd.prog.wantsStandIn t = false by simpa using List.all_eq_true.1 hall t hm)⟩)
    (by kernel_rfl)
#print axioms joins_card
end Go.Proofs.YtgglgpgieeibnaaDoor
