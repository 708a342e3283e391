/- Chapter 6: Base85, the program's own and the document's. -/
import Derived.Test.YtnonldlddgankaaWb6
import Derived.Lib.AppendStr
namespace Go.Proofs.Ytnonldlddgankaa
open Go.RowKit
set_option linter.unusedVariables false
set_option maxRecDepth 100000

/-- Bytes of a text behind a row of one's own. -/
theorem Mine.appendS {w : World} {base p : Nat} {v : Value} {zs : List Int} (h : Mine w base v p zs) (s : ByteArray) (ys : List Int) (hys : Lib.strCells s = ys.map (Value.int .u8)) (hr : ∀ z ∈ ys, 0 ≤ z ∧ z < 256) (ty : TypeId) (hb : p + s.size ≤ 140737488355328) (hbase : base ≤ w.heap.size) :
    ∃ v' w', (Builtin.append_ #[23, 9] ty #[v, .string s]).run Try.prog w = .ok v' w' ∧ Mine w' base v' (p + s.size) (zs ++ ys) ∧ Below base w w' := by
  obtain ⟨i0, hi, hz0, hz1, hz2⟩ := info_parts info5
  obtain ⟨v', w', hrun, hown, hgr, _⟩ := Lib.run_append_own_string (P := Try.prog) w base 23 9 ty 5 i0 Try.underlying23 Try.underlying9 hi hz0 hz1 hz2 v p _ h.own s (by simp only [maxLen]; omega) (by omega) hbase
  rw [hys] at hown
  refine ⟨v', w', hrun, ⟨by simpa using hown, fun z hz => ?_⟩, ⟨hgr.os, hgr.tape, hgr.output, hgr.size, fun k hk => hgr.block k (by omega) (fun e => ?_)⟩⟩
  · rcases List.mem_append.1 hz with hz | hz
    · exact h.rng z hz
    · exact hr z hz
  · rcases h.own.2 with ⟨rfl, _⟩ | ⟨b, cap, cur, rfl, hb, _⟩
    · simp [Value.ownBlock] at e
    · simp [Value.ownBlock] at e
      omega

/-- A group's bytes as a number. -/
theorem num4_numZ (l : List Int) (h : l.length = 4) : numZ l = num4 l := by
  obtain ⟨a, b, c, d, rfl⟩ := list4 l h
  simp [numZ, num4]
theorem num4_part (l : List Int) (h1 : 1 ≤ l.length) (h3 : l.length ≤ 3) : num4 l = numZ l * (if l.length = 1 then 16777216 else if l.length = 2 then 65536 else 256) := by
  match l, h1, h3 with
  | [a], _, _ => simp [numZ, num4]; omega
  | [a, b], _, _ => simp [numZ, num4]; omega
  | [a, b, c], _, _ => simp [numZ, num4]
theorem grp_byt (w : World) (g : Nat) (x : Int) (m : Nat) (hm : m ≤ 5) (x0 : 0 ≤ x) (hlt : g < w.heap.size) (h : w.heap[g]? = some (.cells #[.int .u8 (33 + x / 52200625 % 85), .int .u8 (33 + x / 614125 % 85), .int .u8 (33 + x / 7225 % 85), .int .u8 (33 + x / 85 % 85), .int .u8 (33 + x % 85)] 54 (0, 0))) : Byt w w.heap.size (some ⟨g, 0, none⟩) m 5 ((dg5 x).take m) :=
  ⟨by rw [List.length_take, dg5_len]; omega, hm, fun z hz => by
    have := List.mem_of_mem_take hz
    simp [dg5] at this
    omega, fun _ => ⟨g, 0, rfl, hlt, fun i hi => by
    rw [cell_of_row w g (0 + i) _ 54 (0, 0) h]
    have hi5 : i = 0 ∨ i = 1 ∨ i = 2 ∨ i = 3 ∨ i = 4 := by omega
    have e : ((dg5 x).take m).getD i 0 = (dg5 x).getD i 0 := by simp [List.getD, hi]
    rw [e]
    rcases hi5 with rfl | rfl | rfl | rfl | rfl <;> simp [dg5, Int.add_comm]⟩⟩
/-- A cursor in block kc and a row of one's own beside it, all from block 'base' on. -/
structure BW (w : World) (base kc : Nat) (A : Option Addr) (n c p : Nat) (v : Value) (out : List Int) : Prop where
  cu : Cur w kc A n c p
  row : Mine w base v out.length out
  sep : ∀ b, v.ownBlock = some b → b ≠ kc
  lo : base ≤ kc
section
variable {w w' : World} {base kc n c p : Nat} {A : Option Addr} {v : Value} {out : List Int}
theorem BW.base_le (h : BW w base kc A n c p v out) : base ≤ w.heap.size := Nat.le_trans h.lo (Nat.le_of_lt h.cu.lt)
theorem BW.moved (h : BW w base kc A n c p v out) {q : Nat} (hc : Cur w' kc A n c q) (ho : Only kc w w') : BW w' base kc A n c q v out ∧ Below base w w' :=
  ⟨⟨hc, h.row.same6 fun b hb hlt => ho.block b hlt (h.sep b hb), h.sep, h.lo⟩, ho.belowB h.lo (Nat.le_of_lt h.cu.lt)⟩
theorem BW.more (h : BW w base kc A n c p v out) (hb : Below w.heap.size w w') : BW w' base kc A n c p v out := ⟨h.cu.below hb h.cu.lt, h.row.kept hb, h.sep, h.lo⟩
theorem BW.drewN (h : BW w base kc A n c p v out) (k : Nat) : BW (w.drewN k) base kc A n c p v out := ⟨h.cu.drewN k, h.row.drewN k, h.sep, h.lo⟩
theorem BW.room (h : BW w base kc A n c p v out) {B m c2 : Nat} {A2 : Option Addr} {ys : List Int} (hy : Byt w B A2 m c2 ys) (hm : out.length + m ≤ 100000000) :
    ∃ v' w', (Builtin.append_ #[23, 23] 23 #[v, .slice A2 m c2]).run Try.prog w = .ok v' w' ∧ BW w' base kc A n c p v' (out ++ ys) ∧ Below base w w' ∧ ∃ A c, v' = .slice A (out.length + m) c := by
  have hbw := h.base_le
  obtain ⟨v6, w6, hrun, hmi6, hbe6, hbl6, hsz6, hwn6⟩ := h.row.appendT hy 23 (by omega) hbw
  obtain ⟨A6, c6, hv6, _⟩ := hmi6.byt
  refine ⟨v6, w6, hrun, ⟨(hbl6 kc h.cu.lt (fun e => h.sep kc e rfl)).trans h.cu, ?_, fun b hb => ?_, h.lo⟩, hbe6, A6, c6, hv6⟩
  · rw [List.length_append, hy.len]; exact hmi6
  · rcases hwn6 b hb with h1 | h1
    · exact h.sep b h1
    · have := h.cu.lt; omega
end
set_option maxHeartbeats 4000000 in
theorem pBase85 (A : Option Addr) (n c : Nat) (zs : List Int) (w : World) (hb : Byt w w.heap.size A n c zs) (hn : n ≤ 100000) :
    Calls Try.prog 13 #[.slice A n c] w fun r w' => ∃ v, r = .returned v ∧ Mine w' w.heap.size v (b85S zs).length (b85S zs) ∧ Below w.heap.size w w' := by
  have HB := Lib.hid hb
  have HL := Lib.hid hb.len
  have HN := Lib.hid (fun W => new_cur A n c W)
  obtain ⟨kc, hkc⟩ : ∃ kc, w.heap.size = kc := ⟨_, rfl⟩
  have HKC := Lib.hid hkc
  have HGC := Lib.hid (fun x (x0 : 0 ≤ x) (x1 : x ≤ 4294967295) W => groupC x x0 x1 W)
  clear hb
  go_enter Try.func13, Try.ntmps13
  go_wp2_with (go_at_call 26; refine (HN.out _).mono ?_; (rintro r w2 ⟨rfl, hc2, hb2⟩); rw [hkc] at hc2; rw [hkc]; have HC2 := Lib.hid hc2; have HB2 := Lib.hid hb2; clear hc2 hb2)
  clear hkc
  go_loopg [4] (n / 4 + 1) (fun gk vv wr => ∃ k : Nat, 4 * k ≤ n ∧ n < 4 * k + 4 * gk ∧ Hid (BW wr w.heap.size kc A n c (4 * k) vv (b85G zs k)) ∧ Hid (Below w.heap.size w wr))
  case atStart => exact ⟨0, by omega, by omega, Lib.hid ⟨HC2.out, Mine.nil _ _, (fun b hb => by cases hb), Nat.le_of_eq HKC.out⟩, HB2⟩
  case round =>
    obtain ⟨k, hk, hkg, HBW, HBE⟩ := hrel
    have hgl := b85G_len zs k
    have hby := HB.out.below HBE.out (Nat.le_refl _)
    obtain ⟨m, hm⟩ : ∃ m, n - 4 * k = m := ⟨_, rfl⟩
    have hle := left_any kc n c (4 * k) A wr HBW.out.cu (by omega) (by omega)
    rw [show (n : Int) - (4 * k : Nat) = (m : Int) by omega] at hle
    have HLE := Lib.hid hle
    obtain ⟨A3, c3, hv, _⟩ := HBW.out.row.byt
    subst hv
    clear hle
    by_cases h4 : 4 ≤ m
    · have HW := Lib.hid (word_in kc n c (4 * k) 4 w.heap.size A zs wr HBW.out.cu hby HBW.out.lo (by omega) (by omega) (by omega) (by omega))
      have hll : ((zs.drop (4 * k)).take 4).length = 4 := by rw [List.length_take, List.length_drop, HL.out]; omega
      have hrg : ∀ z ∈ (zs.drop (4 * k)).take 4, 0 ≤ z ∧ z < 256 := fun z hz => HB.out.rng z (List.mem_of_mem_drop (List.mem_of_mem_take hz))
      have hnb := num4_bd _ hrg
      rw [num4_numZ _ hll] at HW
      have hge : b85G zs (k + 1) = b85G zs k ++ grp85 ((zs.drop (4 * k)).take 4) := rfl
      obtain ⟨x, hx⟩ : ∃ x, num4 ((zs.drop (4 * k)).take 4) = x := ⟨_, rfl⟩
      rw [hx] at HW hnb
      obtain ⟨x0, x1⟩ := hnb
      have h4i : (4 : Int) ≤ (m : Int) := by omega
      have hk4 : 4 * (k + 1) ≤ n := by omega
      by_cases hx0 : x = 0
      · have HGE : Hid (b85G zs (k + 1) = b85G zs k ++ [122]) := Lib.hid (by rw [hge]; unfold grp85; rw [if_pos ⟨hx.trans hx0, hll⟩])
        subst hx0
        have HRM := Lib.hid (fun W (hW : BW W w.heap.size kc A n c (4 * k + 4) (.slice A3 (b85G zs k).length c3) (b85G zs k)) => (hW.more ((Below.refl _ _).alloc (Nat.le_refl _) (.cells #[.int .u8 122] 5))).room (byt_lit0 W 122 (by omega)) (by omega))
        clear hll hrg hge hx hby hm h4
        go_wp2_with (first
          | (go_at_call 27; refine HLE.out.mono ?_; (rintro r w3 ⟨rfl, rfl⟩))
          | (go_at_call 28; refine HW.out.mono ?_; (rintro r w4 ⟨rfl, hc4, ho4⟩); have hm4 := HBW.out.moved hc4 ho4; have HBW4 := Lib.hid hm4.1; have HBE4 := Lib.hid (HBE.out.trans hm4.2); clear hc4 ho4 hm4)
          | (at_builtin; obtain ⟨v6, w6, hrun, hw6, hb6, A6, c6, rfl⟩ := HRM.out _ HBW4.out; refine Lib.wpList_append_run_sl _ rfl (.tmp 24) (.tmp 25) 23 rfl _ _ rfl rfl hrun ?_; clear hrun; have HW6 := Lib.hid hw6; have HB6 := Lib.hid ((HBE4.out.alloc HBE4.out.size _).trans hb6); clear hw6 hb6))
        go_roundg (gk - 1)
        case rel => exact ⟨k + 1, hk4, by omega, by rw [HGE.out, show 4 * (k + 1) = 4 * k + 4 by omega]; exact HW6, HB6⟩
        case measure => omega
      · have hx0b : (x == 0) = false := beq_eq_false_iff_ne.2 hx0
        have HGE : Hid (b85G zs (k + 1) = b85G zs k ++ (dg5 x).take 5) := Lib.hid (by rw [hge]; unfold grp85; rw [if_neg (fun h => hx0 (hx.symm.trans h.1)), hll, hx])
        clear hll hrg hge hx hby hm h4 hx0
        go_upto_region 8 with (first
          | (go_at_call 27; refine HLE.out.mono ?_; (rintro r w3 ⟨rfl, rfl⟩))
          | (go_at_call 28; refine HW.out.mono ?_; (rintro r w4 ⟨rfl, hc4, ho4⟩); have hm4 := HBW.out.moved hc4 ho4; have HBW4 := Lib.hid hm4.1; have HBE4 := Lib.hid (HBE.out.trans hm4.2); clear hc4 ho4 hm4)
          | (go_at_call 29; refine (HGC.out _ x0 x1 _).mono ?_; (rintro r w5 ⟨rfl, hb5⟩); have HBW5 := Lib.hid (HBW4.out.more hb5); have HBE5 := Lib.hid (HBE4.out.trans (hb5.mono HBE4.out.size)); clear hb5))
        obtain ⟨b, hbb⟩ : ∃ b, w5.heap.size = b := ⟨_, rfl⟩
        have hrow := heap_alloc_new w5 (.cells #[.int .u8 (33 + x / 52200625 % 85), .int .u8 (33 + x / 614125 % 85), .int .u8 (33 + x / 7225 % 85), .int .u8 (33 + x / 85 % 85), .int .u8 (33 + x % 85)] 54)
        obtain ⟨W6, hW6⟩ : ∃ W6, w5.alloc (.cells #[.int .u8 (33 + x / 52200625 % 85), .int .u8 (33 + x / 614125 % 85), .int .u8 (33 + x / 7225 % 85), .int .u8 (33 + x / 85 % 85), .int .u8 (33 + x % 85)] 54) = W6 := ⟨_, rfl⟩
        have hbw6 : BW W6 w.heap.size kc A n c (4 * k + 4) (.slice A3 (b85G zs k).length c3) (b85G zs k) := by rw [← hW6]; exact HBW5.out.more ((Below.refl _ _).alloc (Nat.le_refl _) _)
        have hbe6 : Below w.heap.size w W6 := by rw [← hW6]; exact HBE5.out.alloc HBE5.out.size _
        have hlt6 : b < W6.heap.size := by rw [← hW6, World.size_alloc, hbb]; omega
        rw [hW6, hbb] at hrow
        have HRM := Lib.hid (hbw6.room (grp_byt W6 b x 5 (by omega) x0 hlt6 hrow) (by omega))
        have HBE6 := Lib.hid hbe6
        rw [hW6, hbb]
        clear hbb hrow hW6 hbw6 hbe6 hlt6
        go_wp2_with (first
          | (at_builtin; obtain ⟨v7, w7, hrun, hw7, hb7, A7, c7, rfl⟩ := HRM.out; refine Lib.wpList_append_run_sl _ rfl (.tmp 29) (.tmp 30) 23 rfl _ _ rfl rfl hrun ?_; clear hrun; have HW7 := Lib.hid hw7; have HB7 := Lib.hid (HBE6.out.trans hb7); clear hw7 hb7))
        go_roundg (gk - 1)
        case rel => exact ⟨k + 1, hk4, by omega, by rw [HGE.out, show 4 * (k + 1) = 4 * k + 4 by omega]; exact HW7, HB7⟩
        case measure => omega
    · have hm3 : m ≤ 3 := by omega
      have hmi : ¬ (4 : Int) ≤ (m : Int) := by omega
      have HSTR : Hid (Lib.strCells ⟨#[126, 62]⟩ = ([126, 62] : List Int).map (Value.int .u8)) := Lib.hid rfl
      by_cases hm0 : m = 0
      · subst hm0
        have HE : Hid (b85S zs = b85G zs k ++ [126, 62]) := Lib.hid (by unfold b85S; rw [HL.out, show (n + 3) / 4 = k by omega])
        have HAP := Lib.hid (HBW.out.row.appendS ⟨#[126, 62]⟩ [126, 62] HSTR.out (fun z hz => by simp at hz; omega) 23 (by show _ + 2 ≤ _; omega) HBE.out.size)
        have HLN : Hid ((b85S zs).length = (b85G zs k).length + 2) := Lib.hid (by rw [HE.out, List.length_append]; rfl)
        clear hby hm h4
        go_upto_region 14 with (first
          | (go_at_call 27; refine HLE.out.mono ?_; (rintro r w3 ⟨rfl, rfl⟩)))
        go_wp2_with (first | (at_builtin; obtain ⟨v8, w8, hrun, hm8, hb8⟩ := HAP.out; refine Lib.wpList_append_run _ rfl _ _ _ _ rfl _ _ rfl rfl _ _ hrun ?_; clear hrun; have HM8 := Lib.hid hm8; have HB8 := Lib.hid (HBE.out.trans hb8); clear hm8 hb8))
        go_ret
        exact ⟨_, rfl, by rw [HLN.out, HE.out]; exact HM8.out, HB8.out⟩
      · have hmp : 1 ≤ m := by omega
        have HW := Lib.hid (word_in kc n c (4 * k) m w.heap.size A zs wr HBW.out.cu hby HBW.out.lo hmp (by omega) (by omega) (by omega))
        have htk : (zs.drop (4 * k)).take m = zs.drop (4 * k) := List.take_of_length_le (by rw [List.length_drop, HL.out]; omega)
        have htk4 : (zs.drop (4 * k)).take 4 = zs.drop (4 * k) := List.take_of_length_le (by rw [List.length_drop, HL.out]; omega)
        have hll : (zs.drop (4 * k)).length = m := by rw [List.length_drop, HL.out]; omega
        have hrg : ∀ z ∈ zs.drop (4 * k), 0 ≤ z ∧ z < 256 := fun z hz => HB.out.rng z (List.mem_of_mem_drop hz)
        have hnb := num4_bd _ hrg
        have hpart := num4_part (zs.drop (4 * k)) (by omega) (by omega)
        rw [htk] at HW
        rw [hll] at hpart
        obtain ⟨y, hy⟩ : ∃ y, numZ (zs.drop (4 * k)) = y := ⟨_, rfl⟩
        obtain ⟨x, hx⟩ : ∃ x, num4 (zs.drop (4 * k)) = x := ⟨_, rfl⟩
        rw [hy] at HW hpart
        rw [hx] at hnb hpart
        obtain ⟨x0, x1⟩ := hnb
        have HE : Hid (b85S zs = b85G zs k ++ (dg5 x).take (m + 1) ++ [126, 62]) := Lib.hid (by
          unfold b85S
          rw [HL.out, show (n + 3) / 4 = k + 1 by omega, b85G, htk4]
          unfold grp85
          rw [if_neg (by omega), hll, hx])
        have HLN : Hid ((b85S zs).length = (b85G zs k ++ (dg5 x).take (m + 1)).length + 2) := Lib.hid (by rw [HE.out]; simp only [List.length_append, List.length_cons, List.length_nil])
        have hm123 : m = 1 ∨ m = 2 ∨ m = 3 := by omega
        have hmi0 : (0 : Int) < (m : Int) := by omega
        clear htk htk4 hll hrg hy hx hby hm h4
        rcases hm123 with rfl | rfl | rfl
        · simp only [reduceIte, Nat.reduceEqDiff] at hpart
          subst hpart
          go_upto_region 13 with (first
            | (go_at_call 27; refine HLE.out.mono ?_; (rintro r w3 ⟨rfl, rfl⟩))
            | (go_at_call 28; refine HW.out.mono ?_; (rintro r w4 ⟨rfl, hc4, ho4⟩); have hm4 := HBW.out.moved hc4 ho4; have HBW4 := Lib.hid hm4.1; have HBE4 := Lib.hid (HBE.out.trans hm4.2); clear hc4 ho4 hm4)
            | (go_at_call 29; refine (HGC.out _ x0 x1 _).mono ?_; (rintro r w5 ⟨rfl, hb5⟩); have HBW5 := Lib.hid (HBW4.out.more hb5); have HBE5 := Lib.hid (HBE4.out.trans (hb5.mono HBE4.out.size)); clear hb5))
          obtain ⟨b, hbb⟩ : ∃ b, w5.heap.size = b := ⟨_, rfl⟩
          have hrow := heap_alloc_new w5 (.cells #[.int .u8 (33 + (y * 16777216) / 52200625 % 85), .int .u8 (33 + (y * 16777216) / 614125 % 85), .int .u8 (33 + (y * 16777216) / 7225 % 85), .int .u8 (33 + (y * 16777216) / 85 % 85), .int .u8 (33 + (y * 16777216) % 85)] 54)
          obtain ⟨W6, hW6⟩ : ∃ W6, w5.alloc (.cells #[.int .u8 (33 + (y * 16777216) / 52200625 % 85), .int .u8 (33 + (y * 16777216) / 614125 % 85), .int .u8 (33 + (y * 16777216) / 7225 % 85), .int .u8 (33 + (y * 16777216) / 85 % 85), .int .u8 (33 + (y * 16777216) % 85)] 54) = W6 := ⟨_, rfl⟩
          have hbw6 : BW W6 w.heap.size kc A n c (4 * k + 1) (.slice A3 (b85G zs k).length c3) (b85G zs k) := by rw [← hW6]; exact HBW5.out.more ((Below.refl _ _).alloc (Nat.le_refl _) _)
          have hbe6 : Below w.heap.size w W6 := by rw [← hW6]; exact HBE5.out.alloc HBE5.out.size _
          have hlt6 : b < W6.heap.size := by rw [← hW6, World.size_alloc, hbb]; omega
          rw [hW6, hbb] at hrow
          have HRM := Lib.hid (hbw6.room (grp_byt W6 b (y * 16777216) (1 + 1) (by omega) x0 hlt6 hrow) (by omega))
          have HBE6 := Lib.hid hbe6
          rw [hW6, hbb]
          clear hbb hrow hW6 hbw6 hbe6 hlt6
          go_upto_region 14 with (first
            | (at_builtin; obtain ⟨v7, w7, hrun, hw7, hb7, A7, c7, rfl⟩ := HRM.out; refine Lib.wpList_append_run_sl _ rfl (.tmp 48) (.tmp 51) 23 rfl _ _ rfl rfl hrun ?_; clear hrun; have HW7 := Lib.hid hw7; have HB7 := Lib.hid (HBE6.out.trans hb7); clear hw7 hb7))
          have hrow7 := HW7.out.row
          rw [show (b85G zs k ++ (dg5 (y * 16777216)).take (1 + 1)).length = (b85G zs k).length + (1 + 1) by rw [List.length_append, List.length_take, dg5_len]; rfl] at hrow7
          have HAP := Lib.hid (hrow7.appendS ⟨#[126, 62]⟩ [126, 62] HSTR.out (fun z hz => by simp at hz; omega) 23 (by show _ + 2 ≤ _; omega) HB7.out.size)
          clear hrow7
          go_wp2_with (first | (at_builtin; obtain ⟨v8, w8, hrun, hm8, hb8⟩ := HAP.out; refine Lib.wpList_append_run _ rfl _ _ _ _ rfl _ _ rfl rfl _ _ hrun ?_; clear hrun; have HM8 := Lib.hid hm8; have HB8 := Lib.hid (HB7.out.trans hb8); clear hm8 hb8))
          go_ret
          exact ⟨_, rfl, by rw [HLN.out, HE.out, List.length_append, List.length_take, dg5_len]; exact HM8.out, HB8.out⟩
        · simp only [reduceIte, Nat.reduceEqDiff] at hpart
          subst hpart
          go_upto_region 13 with (first
            | (go_at_call 27; refine HLE.out.mono ?_; (rintro r w3 ⟨rfl, rfl⟩))
            | (go_at_call 28; refine HW.out.mono ?_; (rintro r w4 ⟨rfl, hc4, ho4⟩); have hm4 := HBW.out.moved hc4 ho4; have HBW4 := Lib.hid hm4.1; have HBE4 := Lib.hid (HBE.out.trans hm4.2); clear hc4 ho4 hm4)
            | (go_at_call 29; refine (HGC.out _ x0 x1 _).mono ?_; (rintro r w5 ⟨rfl, hb5⟩); have HBW5 := Lib.hid (HBW4.out.more hb5); have HBE5 := Lib.hid (HBE4.out.trans (hb5.mono HBE4.out.size)); clear hb5))
          obtain ⟨b, hbb⟩ : ∃ b, w5.heap.size = b := ⟨_, rfl⟩
          have hrow := heap_alloc_new w5 (.cells #[.int .u8 (33 + (y * 65536) / 52200625 % 85), .int .u8 (33 + (y * 65536) / 614125 % 85), .int .u8 (33 + (y * 65536) / 7225 % 85), .int .u8 (33 + (y * 65536) / 85 % 85), .int .u8 (33 + (y * 65536) % 85)] 54)
          obtain ⟨W6, hW6⟩ : ∃ W6, w5.alloc (.cells #[.int .u8 (33 + (y * 65536) / 52200625 % 85), .int .u8 (33 + (y * 65536) / 614125 % 85), .int .u8 (33 + (y * 65536) / 7225 % 85), .int .u8 (33 + (y * 65536) / 85 % 85), .int .u8 (33 + (y * 65536) % 85)] 54) = W6 := ⟨_, rfl⟩
          have hbw6 : BW W6 w.heap.size kc A n c (4 * k + 2) (.slice A3 (b85G zs k).length c3) (b85G zs k) := by rw [← hW6]; exact HBW5.out.more ((Below.refl _ _).alloc (Nat.le_refl _) _)
          have hbe6 : Below w.heap.size w W6 := by rw [← hW6]; exact HBE5.out.alloc HBE5.out.size _
          have hlt6 : b < W6.heap.size := by rw [← hW6, World.size_alloc, hbb]; omega
          rw [hW6, hbb] at hrow
          have HRM := Lib.hid (hbw6.room (grp_byt W6 b (y * 65536) (2 + 1) (by omega) x0 hlt6 hrow) (by omega))
          have HBE6 := Lib.hid hbe6
          rw [hW6, hbb]
          clear hbb hrow hW6 hbw6 hbe6 hlt6
          go_upto_region 14 with (first
            | (at_builtin; obtain ⟨v7, w7, hrun, hw7, hb7, A7, c7, rfl⟩ := HRM.out; refine Lib.wpList_append_run_sl _ rfl (.tmp 48) (.tmp 51) 23 rfl _ _ rfl rfl hrun ?_; clear hrun; have HW7 := Lib.hid hw7; have HB7 := Lib.hid (HBE6.out.trans hb7); clear hw7 hb7))
          have hrow7 := HW7.out.row
          rw [show (b85G zs k ++ (dg5 (y * 65536)).take (2 + 1)).length = (b85G zs k).length + (2 + 1) by rw [List.length_append, List.length_take, dg5_len]; rfl] at hrow7
          have HAP := Lib.hid (hrow7.appendS ⟨#[126, 62]⟩ [126, 62] HSTR.out (fun z hz => by simp at hz; omega) 23 (by show _ + 2 ≤ _; omega) HB7.out.size)
          clear hrow7
          go_wp2_with (first | (at_builtin; obtain ⟨v8, w8, hrun, hm8, hb8⟩ := HAP.out; refine Lib.wpList_append_run _ rfl _ _ _ _ rfl _ _ rfl rfl _ _ hrun ?_; clear hrun; have HM8 := Lib.hid hm8; have HB8 := Lib.hid (HB7.out.trans hb8); clear hm8 hb8))
          go_ret
          exact ⟨_, rfl, by rw [HLN.out, HE.out, List.length_append, List.length_take, dg5_len]; exact HM8.out, HB8.out⟩
        · simp only [reduceIte, Nat.reduceEqDiff] at hpart
          subst hpart
          go_upto_region 13 with (first
            | (go_at_call 27; refine HLE.out.mono ?_; (rintro r w3 ⟨rfl, rfl⟩))
            | (go_at_call 28; refine HW.out.mono ?_; (rintro r w4 ⟨rfl, hc4, ho4⟩); have hm4 := HBW.out.moved hc4 ho4; have HBW4 := Lib.hid hm4.1; have HBE4 := Lib.hid (HBE.out.trans hm4.2); clear hc4 ho4 hm4)
            | (go_at_call 29; refine (HGC.out _ x0 x1 _).mono ?_; (rintro r w5 ⟨rfl, hb5⟩); have HBW5 := Lib.hid (HBW4.out.more hb5); have HBE5 := Lib.hid (HBE4.out.trans (hb5.mono HBE4.out.size)); clear hb5))
          obtain ⟨b, hbb⟩ : ∃ b, w5.heap.size = b := ⟨_, rfl⟩
          have hrow := heap_alloc_new w5 (.cells #[.int .u8 (33 + (y * 256) / 52200625 % 85), .int .u8 (33 + (y * 256) / 614125 % 85), .int .u8 (33 + (y * 256) / 7225 % 85), .int .u8 (33 + (y * 256) / 85 % 85), .int .u8 (33 + (y * 256) % 85)] 54)
          obtain ⟨W6, hW6⟩ : ∃ W6, w5.alloc (.cells #[.int .u8 (33 + (y * 256) / 52200625 % 85), .int .u8 (33 + (y * 256) / 614125 % 85), .int .u8 (33 + (y * 256) / 7225 % 85), .int .u8 (33 + (y * 256) / 85 % 85), .int .u8 (33 + (y * 256) % 85)] 54) = W6 := ⟨_, rfl⟩
          have hbw6 : BW W6 w.heap.size kc A n c (4 * k + 3) (.slice A3 (b85G zs k).length c3) (b85G zs k) := by rw [← hW6]; exact HBW5.out.more ((Below.refl _ _).alloc (Nat.le_refl _) _)
          have hbe6 : Below w.heap.size w W6 := by rw [← hW6]; exact HBE5.out.alloc HBE5.out.size _
          have hlt6 : b < W6.heap.size := by rw [← hW6, World.size_alloc, hbb]; omega
          rw [hW6, hbb] at hrow
          have HRM := Lib.hid (hbw6.room (grp_byt W6 b (y * 256) (3 + 1) (by omega) x0 hlt6 hrow) (by omega))
          have HBE6 := Lib.hid hbe6
          rw [hW6, hbb]
          clear hbb hrow hW6 hbw6 hbe6 hlt6
          go_upto_region 14 with (first
            | (at_builtin; obtain ⟨v7, w7, hrun, hw7, hb7, A7, c7, rfl⟩ := HRM.out; refine Lib.wpList_append_run_sl _ rfl (.tmp 48) (.tmp 51) 23 rfl _ _ rfl rfl hrun ?_; clear hrun; have HW7 := Lib.hid hw7; have HB7 := Lib.hid (HBE6.out.trans hb7); clear hw7 hb7))
          have hrow7 := HW7.out.row
          rw [show (b85G zs k ++ (dg5 (y * 256)).take (3 + 1)).length = (b85G zs k).length + (3 + 1) by rw [List.length_append, List.length_take, dg5_len]; rfl] at hrow7
          have HAP := Lib.hid (hrow7.appendS ⟨#[126, 62]⟩ [126, 62] HSTR.out (fun z hz => by simp at hz; omega) 23 (by show _ + 2 ≤ _; omega) HB7.out.size)
          clear hrow7
          go_wp2_with (first | (at_builtin; obtain ⟨v8, w8, hrun, hm8, hb8⟩ := HAP.out; refine Lib.wpList_append_run _ rfl _ _ _ _ rfl _ _ rfl rfl _ _ hrun ?_; clear hrun; have HM8 := Lib.hid hm8; have HB8 := Lib.hid (HB7.out.trans hb8); clear hm8 hb8))
          go_ret
          exact ⟨_, rfl, by rw [HLN.out, HE.out, List.length_append, List.length_take, dg5_len]; exact HM8.out, HB8.out⟩
end Go.Proofs.Ytnonldlddgankaa
