/- Chapter 8, the project's own writer: turned, Encode. -/
import Derived.Test.YtpnnejedfccckaaEz8
import Derived.Test.YtpnnejedfccckaaPb8
namespace Go.Proofs.Ytpnnejedfccckaa
open Go.RowKit
set_option linter.unusedVariables false
set_option maxRecDepth 100000

def mixR (P : List Int) (k : Nat) : List Int := (P.take k).map Lib.rev8 ++ P.drop k
theorem mixR_len (P : List Int) (k : Nat) (h : k ≤ P.length) : (mixR P k).length = P.length := by simp [mixR]; omega
theorem mixR_get (P : List Int) (k : Nat) (h : k < P.length) : (mixR P k).getD k 0 = P.getD k 0 := by
  unfold mixR
  simp only [List.getD]
  rw [List.getElem?_append_right (by simp; omega)]
  simp [Nat.min_eq_left (Nat.le_of_lt h)]
theorem mixR_step (P : List Int) (k : Nat) (h : k < P.length) : (mixR P k).set k (Lib.rev8 (P.getD k 0)) = mixR P (k + 1) := by
  unfold mixR
  have hl : ((P.take k).map Lib.rev8).length = k := by simp; omega
  rw [List.set_append_right _ _ (by omega), hl, Nat.sub_self, List.drop_eq_getElem_cons h, List.set_cons_zero, List.take_succ_eq_append_getElem h, List.map_append, List.append_assoc, getD_eq P k h]
  rfl
set_option maxHeartbeats 1000000 in
theorem turnedC (w0 : World) (g B n told : Nat) (bs : List Nat) (L : List Int) (F : Nat → Int → Option Nat) (w : World) (h : WS w0 w g B bs L n F told) (hL : L.length ≤ 600000000) :
    Calls Try.prog 19 #[.pointer (some ⟨g, 0, none⟩)] w fun r w' => ∃ v, r = .returned v ∧ Mine w' w0.heap.size v (packZ L).length (packZ L) ∧ Below w0.heap.size w0 w' := by
  have h01 := h.row.b01
  have HPB := Lib.hid (pbytes5 g _ _ bs L w h.row (by omega))
  have hlow := h.low
  have HE : Hid (packZ L = mixR (pack L) (pack L).length) := Lib.hid (by rw [packZ_rev L h01, mixR, List.take_length, List.drop_length, List.append_nil])
  have hrng := pack_rng L h01
  have hpl := pack_len L
  obtain ⟨P, hP⟩ : ∃ P, pack L = P := ⟨_, rfl⟩
  rw [hP] at HPB HE hrng hpl
  obtain ⟨M, hM⟩ : ∃ M, P.length = M := ⟨_, rfl⟩
  rw [hM] at HPB HE hpl
  have hMb : M ≤ 100000000 := by omega
  have HM := Lib.hid hM
  have HRG := Lib.hid hrng
  have HLOW := Lib.hid hlow
  have HM0 : Hid (P = mixR P 0) := Lib.hid (by simp [mixR])
  clear hP hpl hM h01 h hrng hlow
  go_enter Try.func19, Try.ntmps19
  go_wp2_with (go_at_call 35; refine HPB.out.mono ?_; (rintro r w1 ⟨v1, rfl, hm1, hb1⟩); have HM1 := Lib.hid (hm1.weak8 HLOW.out.size); have HB1 := Lib.hid (HLOW.out.trans (hb1.mono HLOW.out.size)); obtain ⟨A1, c1, rfl, _⟩ := hm1.byt; clear hm1 hb1)
  go_loopw [12, 4, 5] (fun kv _ _ wr => ∃ (k : Nat), k ≤ M ∧ kv = .int .i64 k ∧ Hid (Mine wr w0.heap.size (.slice A1 M c1) M (mixR P k)) ∧ Hid (Below w0.heap.size w0 wr)) (fun kv _ _ _ => M - (intOf kv).toNat)
  case atStart => exact ⟨0, Nat.zero_le _, rfl, Lib.hid (by rw [← HM0.out]; exact HM1.out), HB1⟩
  case round =>
    obtain ⟨k, hk, rfl, HK, HB⟩ := hrel
    by_cases hlt : k < M
    · obtain ⟨b, c2, e, hbl, hbs, hbf, hbc⟩ := HK.out.block8 (by omega)
      injection e with e1 e2 e3
      subst e1 e3
      have hgz : 0 ≤ P.getD k 0 ∧ P.getD k 0 < 256 := by rw [getD_eq P k (by rw [HM.out]; exact hlt)]; exact HRG.out _ (List.getElem_mem _)
      have ck := hbc k hlt
      rw [mixR_get P k (by rw [HM.out]; exact hlt)] at ck
      have hst := mixR_step P k (by rw [HM.out]; exact hlt)
      obtain ⟨z, hz⟩ : ∃ z, P.getD k 0 = z := ⟨_, rfl⟩
      rw [hz] at hgz ck hst
      have hrb := (rev_bits z hgz.1 hgz.2).1
      obtain ⟨y, hy⟩ : ∃ y, Lib.rev8 z = y := ⟨_, rfl⟩
      have HRV := Lib.hid (fun W => rev8C z y hgz.1 hgz.2 hy W)
      rw [hy] at hst hrb
      have hput := HK.out.put8 k y hlt hrb
      rw [hst] at hput
      have HP := Lib.hid hput
      have hbe : Below w0.heap.size w0 (wr.setCell ⟨b, k, none⟩ (.int .u8 y)) := HB.out.trans (((Only.refl b wr).set_ k _).belowB hbl (Nat.le_of_lt hbs))
      have HBE := Lib.hid hbe
      have hbk := hbf k
      have hki : (k : Int) < M := by omega
      clear hbc hz hst hput hbe hy hbl hbs hbf
      go_wp2_with (go_at_call 36; refine (HRV.out _).mono ?_; (rintro r w3 ⟨rfl, rfl⟩))
      go_roundw
      case rel => exact ⟨k + 1, by omega, by go_num, HP, HBE⟩
      case measure => simp [intOf]; omega
    · obtain rfl : M = k := by omega
      go_wp2_with fail
      go_ret
      refine ⟨_, rfl, ?_, HB.out⟩
      rw [HE.out]
      exact HK.out.cast
theorem Byt.rest {w : World} {B n c : Nat} {A : Option Addr} {zs : List Int} (h : Byt w B A n c zs) {l : Nat} (hl : l ≤ n) : Byt w B (cutA A c l) (n - l) (c - l) (zs.drop l) := by
  have := h.cut (l := l) (m := n - l) (by omega)
  rwa [List.take_of_length_le (by rw [List.length_drop, h.len]; exact Nat.le_refl _)] at this
def lenOf : Value → Nat
  | .slice _ n _ => n
  | _ => 0
def zeroW : Array Value := (Value.pointer none :: (u8s (List.replicate 256 0) ++ [.int .i64 0, .int .i64 0, .int .i64 0, .map none, .int .i64 0])).toArray
theorem writer_zero (W : World) : (zeroValue 51).run Try.prog W = .ok (.agg zeroW) W := by kernel_rfl
theorem zeroW_map (B : Nat) : zeroW.setIfInBounds 260 (.map (some B)) = (Value.pointer none :: (u8s (List.replicate 256 0) ++ [.int .i64 0, .int .i64 0, .int .i64 0, .map (some B), .int .i64 0])).toArray := by kernel_rfl
theorem writer_made (w0 w1 : World) (hb : Below w0.heap.size w0 w1) (B : Nat) (hB : B = w1.heap.size) : WS w0 ((w1.alloc (.map #[] 0)).alloc (.cells ((Value.pointer none :: (u8s (List.replicate 256 0) ++ [.int .i64 0, .int .i64 0, .int .i64 0, .map (some B), .int .i64 0])).toArray) 51)) (w1.heap.size + 1) B [] [] 0 (fun _ _ => none) 0 := by
  subst hB
  have hs := hb.size
  have h2 : (w1.alloc (.map #[] 0)).heap.size = w1.heap.size + 1 := by simp
  refine ⟨⟨⟨.pointer none, List.replicate 256 0, ⟨?_, by simp, ⟨rfl, rfl⟩, rfl, rfl, (fun b h => by cases h), (fun z h => by cases h)⟩⟩, B01.nil⟩, ?_, by omega, (fun b h => by cases h), ⟨by omega, by omega⟩, ?_⟩
  · have := heap_alloc_new (w1.alloc (.map #[] 0)) (.cells ((Value.pointer none :: (u8s (List.replicate 256 0) ++ [.int .i64 0, .int .i64 0, .int .i64 0, .map (some w1.heap.size), .int .i64 0])).toArray) 51)
    rw [h2] at this
    exact this
  · exact (MapF.made w1).keep (((Below.refl _ _).alloc (Nat.le_refl _) _).block _ (by simp))
  · exact (hb.alloc hs _).alloc (by simp; omega) _
set_option maxHeartbeats 2000000 in
theorem pEncode (A : Option Addr) (n c : Nat) (zs : List Int) (w : World) (hb : Byt w w.heap.size A n c zs) (hn : n ≤ 10000) :
    Calls Try.prog 11 #[.slice A n c] w fun r w' => ∃ v, r = .returned v ∧ Mine w' w.heap.size v (lzEnc zs).length (lzEnc zs) ∧ Below w.heap.size w w' := by
  have HB := Lib.hid hb
  have HLEN := Lib.hid hb.len
  have hcap := hb.cap
  have hmm := @run_makeMap Try.prog
  have hzv := writer_zero
  have hzm := zeroW_map w.heap.size
  have hzs : ¬ (zeroW.size < 261) := by decide +kernel
  have hws := writer_made w w (Below.refl _ _) _ rfl
  obtain ⟨Z, hZ⟩ : ∃ Z : Array Value, (Value.pointer none :: (u8s (List.replicate 256 0) ++ [.int .i64 0, .int .i64 0, .int .i64 0, .map (some w.heap.size), .int .i64 0])).toArray = Z := ⟨_, rfl⟩
  rw [hZ] at hzm hws
  obtain ⟨Z0, hZ0⟩ : ∃ Z0, zeroW = Z0 := ⟨_, rfl⟩
  rw [hZ0] at hzm hzs
  simp only [hZ0] at hzv
  have HBG := Lib.hid (beginW w _ _ 0 0 [] [] _ _ hws (by omega) (by simp))
  clear hb hZ hZ0 hws
  go_enter Try.func11, Try.ntmps11
  go_wp2_with (go_at_call 16; refine HBG.out.mono ?_; (rintro r w1 ⟨rfl, bs1, hw1⟩); have HW1 := Lib.hid hw1; clear hw1)
  have HS0 : Hid (EP w w1 zs (w.heap.size + 1) w.heap.size bs1 (hiB 256 9) 0 zs.length [] 0 0 (fun _ _ => none)) := Lib.hid ⟨HW1.out, Trie.nil, by simp, by rw [lzBits]; rfl, by omega, fun _ => rfl, by omega, by simp⟩
  have HN0 : Hid (n ≤ 10000) := Lib.hid hn
  clear hzv hzm hzs hmm
  go_loopw [0, 4] (fun bv _ wr => ∃ (a : Nat) (A1 : Option Addr) (n1 c1 : Nat), n1 ≤ n ∧ bv = .slice A1 n1 c1 ∧ Hid (n1 = n - a ∧ a ≤ n) ∧ Hid (Byt w w.heap.size A1 n1 c1 (zs.drop a)) ∧ Hid (∃ bs L f TE told nn F, EP w wr zs (w.heap.size + 1) w.heap.size bs L a f TE told nn F)) (fun bv _ _ => lenOf bv)
  case atStart => exact ⟨0, A, n, c, Nat.le_refl _, rfl, Lib.hid ⟨rfl, Nat.zero_le _⟩, Lib.hid (by rw [List.drop_zero]; exact HB.out), Lib.hid ⟨_, _, _, _, _, _, _, HS0.out⟩⟩
  case round =>
    obtain ⟨a, A1, n1, c1, hn1, rfl, HN, HBY, HE⟩ := hrel
    by_cases h0 : 0 < n1
    · obtain ⟨bs, L, f, TE, told, nn, F, he⟩ := HE.out
      have h1 := HN.out
      have HRW := Lib.hid (rowW w zs _ _ a f told nn n1 c1 A1 bs L TE F wr he (by rw [HLEN.out]; omega) (by rw [HLEN.out]; omega) HBY.out)
      have hi : (0 : Int) < n1 := by omega
      have hcp := HBY.out.cap
      have hgt : (n1 : Int) > 0 := hi
      have hs : ∀ (k : Nat), k ≤ n1 → ∀ W, (Instr.slice 23 (.slice A1 n1 c1) (some (.int .i64 (k : Int))) none none).run Try.prog W = .ok (.slice (cutA A1 c1 k) (n1 - k) (c1 - k)) W := fun k hk W =>
        run_cutR (P := Try.prog) W 23 5 Try.underlying23 (fun w => by kernel_rfl) A1 n1 c1 k hk hcp
      have HSL := Lib.hid hs
      clear he h1 hs h0
      go_wp2_with (go_at_call 17; refine HRW.out.mono ?_; (rintro r w3 ⟨k, rfl, hk1, hk2, bs2, L2, TE2, told2, nn2, F2, he2⟩); have hsl := HSL.out k (by have := HN.out; rw [HLEN.out] at hk2; omega); have HE2 := Lib.hid he2; have HK := Lib.hid hk2; clear he2 hk2)
      go_roundw
      case rel =>
        have h1 := HN.out
        have h2 := HK.out
        rw [HLEN.out] at h2
        refine ⟨a + k, _, n1 - k, _, by omega, rfl, Lib.hid (by omega), Lib.hid ?_, Lib.hid ⟨_, _, _, _, _, _, _, HE2.out⟩⟩
        have := HBY.out.rest (l := k) (by omega)
        rw [List.drop_drop] at this
        exact this
      case measure => simp [lenOf]; omega
    · obtain rfl : n1 = 0 := by omega
      obtain ⟨bs, L, f, TE, told, nn, F, he⟩ := HE.out
      have hll := he.len
      have hout := he.out
      have h1 := HN.out
      rw [lzB_out zs f a TE _ _ (by rw [HLEN.out]; omega)] at hout
      have hL : L.length ≤ 3000000 := by have := HLEN.out; omega
      have HCO := Lib.hid (codeW w _ _ nn told 257 bs L F wr he.ws (by have := he.tmx; omega) (by omega) (by omega))
      rw [show ((257 : Nat) : Int) = 257 from rfl, hout] at HCO
      have HTU := Lib.hid (fun W bs2 (hW : WS w W (w.heap.size + 1) w.heap.size bs2 (lzBits zs) nn F told) => turnedC w _ _ nn told bs2 (lzBits zs) F W hW (by have := lzBits_len zs; have := HLEN.out; omega))
      clear he hll hout h1 hL
      go_wp2_with (first
        | (go_at_call 18; refine HCO.out.mono ?_; (rintro r w2 ⟨rfl, bs2, hw2⟩); have HW2 := Lib.hid hw2; clear hw2)
        | (go_at_call 19; refine (HTU.out _ _ HW2.out).mono ?_; (rintro r w3 ⟨v3, rfl, hm3, hb3⟩); have HM3 := Lib.hid hm3; have HB3 := Lib.hid hb3; clear hm3 hb3))
      go_ret
      exact ⟨v3, rfl, HM3.out, HB3.out⟩
end Go.Proofs.Ytpnnejedfccckaa
