/- Contracts of functions that the law calls, and what they lean on (a part). -/
import Derived.Outline
import Derived.LoopTactic
import Derived.WalkLawsBesides
import Derived.Laws.Concat
import Derived.Lib.IndexBytes
import Derived.Test.YtliieeagbpmcgaaGreatDoorPv1
namespace Go.Proofs.YtliieeagbpmcgaaGreatDoor
section
open Go.RowKit
set_option linter.unusedVariables false
/-- The decimal digits of a number, at most f of them. -/
def digF : Nat → Nat → List UInt8
  | 0, _ => []
  | f + 1, n => (if n / 10 = 0 then [] else digF f (n / 10)) ++ [UInt8.ofNat (48 + n % 10)]
def digB (n : Nat) : List UInt8 := digF 20 n
theorem byt_one (w : World) (fr : Nat × Nat) (z : Int) (hz : 0 ≤ z ∧ z < 256) : Byt (w.alloc (.cells #[.int .u8 z] 5 fr)) (w.heap.size + 1) (some ⟨w.heap.size, 0, none⟩) 1 1 [z] := by
  refine ⟨rfl, Nat.le_refl _, fun x hx => by simp at hx; subst hx; exact hz, fun _ => ⟨w.heap.size, 0, rfl, by omega, fun i hi => ?_⟩⟩
  obtain rfl : i = 0 := by omega
  rw [World.cell?_alloc_mark]
  rfl
set_option maxHeartbeats 1000000 in
theorem refDigits (n : Nat) (w : World) (hn : n < 18446744073709551616) :
    Calls Tryz.prog 103 #[.int .u64 n] w fun e w' => e = .returned (.string ⟨(digB n).toArray⟩) ∧ Below w.heap.size w w' := by
  have HN := Lib.hid hn
  clear hn
  go_enter Tryz.func103, Tryz.ntmps103
  go_wp2
  go_loopw [0, 3] (fun a s wr => ∃ (m f : Nat) (S : ByteArray), a = .int .u64 m ∧ s = .string S ∧ Hid (m < 18446744073709551616) ∧ Hid (m < 10 ^ f) ∧ Hid (digB n = digF f m ++ S.data.toList) ∧ Hid (0 < f) ∧ S.size + f ≤ 20 ∧ Below w.heap.size w wr) (fun a _ _ => (intOf a).toNat)
  case atStart => exact ⟨n, 20, ⟨#[]⟩, rfl, rfl, HN, Lib.hid (by have := HN.out; omega), Lib.hid (by unfold digB; simp), Lib.hid (by omega), by decide, Below.refl _ _⟩
  case round =>
    obtain ⟨m, f, S, rfl, rfl, hm64, hmf, hd, hf0, hsz, hbel⟩ := hrel
    have HBE := Lib.hid hbel
    clear hbel
    have hT0 : strOfNums [48 + (m : Int) % 10] = ⟨#[UInt8.ofNat (48 + m % 10)]⟩ := by
      have e : (48 + (m : Int) % 10).toNat = 48 + m % 10 := by omega
      unfold strOfNums
      rw [List.map_cons, e]
      rfl
    obtain ⟨T, hT⟩ : ∃ T, strOfNums [48 + (m : Int) % 10] = T := ⟨_, rfl⟩
    have hcv : (convert 23 9 (.slice (some ⟨wr.heap.size, 0, none⟩) 1 1)).run Tryz.prog (wr.alloc (.cells #[.int .u8 (48 + (m : Int) % 10)] 5)) = .ok (.string T) (wr.alloc (.cells #[.int .u8 (48 + (m : Int) % 10)] 5)) := by
      rw [← hT]
      have hb := byt_one wr (0, 0) (48 + (m : Int) % 10) (by omega)
      exact hb.inn.convert (P := Tryz.prog) hb.len 1 23 5 9 Tryz.underlying23 Tryz.underlying5 Tryz.underlying9
    rw [hT] at hT0
    have HT := Lib.hid hT0
    have hTs : T.size ≤ 1 := by rw [hT0]; exact Nat.le_refl _
    clear hT hT0
    by_cases hlast : m / 10 = 0
    · have hwr : IntKind.u64.wrap ((m : Int) / 10) = 0 := by rw [show (m : Int) / 10 = 0 by omega]; decide
      have HR : Hid ((⟨(digB n).toArray⟩ : ByteArray) = T ++ S) := Lib.hid (by
        have h1 := hd.out
        obtain ⟨g, hg⟩ : ∃ g, f = g + 1 := ⟨f - 1, by have := hf0.out; omega⟩
        rw [hg, digF, if_pos hlast, List.nil_append] at h1
        rw [h1, HT.out]
        apply ByteArray.ext
        simp [ByteArray.data_append])
      go_wp2
      go_ret
      exact ⟨by rw [HR.out]; rfl, HBE.out.alloc HBE.out.size _⟩
    · have hwr0 : IntKind.u64.wrap ((m : Int) / 10) = ((m / 10 : Nat) : Int) := by rw [IntKind.wrap_u64]; have := hm64.out; omega
      have H1 : Hid (m / 10 < 18446744073709551616) := Lib.hid (by have := hm64.out; omega)
      obtain ⟨g, hg⟩ : ∃ g, f = g + 1 := ⟨f - 1, by have := hf0.out; omega⟩
      have H2 : Hid (m / 10 < 10 ^ g) := Lib.hid (by
        have h := hmf.out
        rw [hg, Nat.pow_succ] at h
        omega)
      have H4 : Hid (0 < g) := Lib.hid (by
        rcases Nat.eq_zero_or_pos g with h | h
        · have h2 := H2.out
          rw [h] at h2
          omega
        · exact h)
      have H3 : Hid (digB n = digF g (m / 10) ++ (T ++ S).data.toList) := Lib.hid (by
        have h1 := hd.out
        rw [hg, digF, if_neg hlast] at h1
        rw [h1, HT.out]
        simp [ByteArray.data_append])
      have HSZ : Hid ((T ++ S).size + g ≤ 20) := Lib.hid (by rw [ByteArray.size_append]; omega)
      have HMM : Hid (m / 10 < m) := Lib.hid (by omega)
      obtain ⟨M, hM⟩ : ∃ M, m / 10 = M := ⟨_, rfl⟩
      rw [hM] at hwr0 H1 H2 H3 HMM
      have hz : ((M : Int) == 0) = false := beq_eq_false_iff_ne.2 (by omega)
      clear hM hg hlast
      go_wp2
      go_roundw
      case rel => exact ⟨M, g, T ++ S, rfl, rfl, H1, H2, H3, H4, HSZ.out, HBE.out.alloc HBE.out.size _⟩
      case measure => have := HMM.out; simp [intOf]; omega
/-- Without the noughts at the end, but one digit at least. -/
def stripR : List UInt8 → List UInt8
  | x :: y :: r => if x = 48 then stripR (y :: r) else x :: y :: r
  | l => l
def stripZ (l : List UInt8) : List UInt8 := (stripR l.reverse).reverse
def fracB (u : Nat) : List UInt8 := stripZ ((digB (100000 + u % 100000)).drop 1)
def signB (n : Int) : List UInt8 := if n < 0 then [45] else []
def textB (n : Int) (whole : Bool) : List UInt8 := signB n ++ (if whole = true then digB n.natAbs else digB (n.natAbs / 100000) ++ [46] ++ fracB n.natAbs)
theorem digF_len (f n : Nat) : (digF (f + 1) n).length = if n / 10 = 0 then 1 else (digF f (n / 10)).length + 1 := by
  rw [digF]
  split <;> simp
theorem digB_len6 (m : Nat) (h1 : 100000 ≤ m) (h2 : m < 1000000) : (digB m).length = 6 := by
  unfold digB
  rw [digF_len, if_neg (by omega), digF_len, if_neg (by omega), digF_len, if_neg (by omega), digF_len, if_neg (by omega), digF_len, if_neg (by omega), digF_len, if_pos (by omega)]
theorem digB_le (n : Nat) : (digB n).length ≤ 20 := by
  have h : ∀ f n, (digF f n).length ≤ f := by
    intro f
    induction f with
    | zero => intro n; simp [digF]
    | succ f ih =>
      intro n
      rw [digF_len]
      have := ih (n / 10)
      split <;> omega
  exact h 20 n
theorem list_last (F : ByteArray) (h : 0 < F.size) : F.data.toList = (F.extract 0 (F.size - 1)).data.toList ++ [F[F.size - 1]'(by omega)] := by
  have hl : F.data.toList.length = F.size := by simp
  have e1 : (F.extract 0 (F.size - 1)).data.toList = F.data.toList.take (F.size - 1) := by rw [Lib.extract_data, List.drop_zero, Nat.sub_zero]
  have e2 := List.take_append_drop (F.size - 1) F.data.toList
  rw [e1]
  conv => lhs; rw [← e2]
  congr 1
  rw [List.drop_eq_getElem_cons (by omega), List.drop_of_length_le (by omega)]
  rfl
theorem strip_snoc (l : List UInt8) (x : UInt8) (hl : l ≠ []) : stripZ (l ++ [x]) = if x = 48 then stripZ l else l ++ [x] := by
  unfold stripZ
  rw [List.reverse_append, List.reverse_singleton, List.singleton_append]
  rcases hr : l.reverse with _ | ⟨y, r⟩
  · exact absurd (List.reverse_eq_nil_iff.1 hr) hl
  · rw [stripR]
    split
    · rfl
    · rw [← hr]; simp
theorem strip_step (F : ByteArray) (h : 1 < F.size) (hx : ((F[F.size - 1]'(by omega)).toNat : Int) = 48) : stripZ F.data.toList = stripZ (F.extract 0 (F.size - 1)).data.toList := by
  rw [list_last F (by omega), strip_snoc _ _ (fun e => by have := congrArg List.length e; simp [ByteArray.data_extract] at this; omega), if_pos (UInt8.toNat_inj.1 (by show _ = 48; omega))]
theorem strip_stop (F : ByteArray) (h : 1 < F.size) (hx : ¬ ((F[F.size - 1]'(by omega)).toNat : Int) = 48) : stripZ F.data.toList = F.data.toList := by
  have e := list_last F (by omega)
  have h2 : ¬ F[F.size - 1]'(by omega) = 48 := fun e => hx (by rw [e]; rfl)
  rw [e, strip_snoc _ _ (fun e => by have := congrArg List.length e; simp [ByteArray.data_extract] at this; omega), if_neg h2]
theorem strip_one (F : ByteArray) (h : F.size = 1) : stripZ F.data.toList = F.data.toList := by
  have hl : F.data.toList.length = 1 := by simpa using h
  match hF : F.data.toList, hl with
  | [x], _ => rfl
theorem refDigitsI (x : Int) (n : Nat) (w : World) (hx : x = n) (hn : n < 18446744073709551616) (S : ByteArray) (hS : S = ⟨(digB n).toArray⟩) :
    Calls Tryz.prog 103 #[.int .u64 x] w fun e w' => e = .returned (.string S) ∧ Below w.heap.size w w' := by
  rw [hx, hS]; exact refDigits n w hn
set_option maxHeartbeats 1000000 in
theorem refText_pos (n : Int) (whole : Bool) (w : World) (h0 : 0 ≤ n) (h1 : n ≤ 9223372036854775807) :
    Calls Tryz.prog 60 #[.int .i64 n, .bool whole] w fun e w' => e = .returned (.string ⟨(textB n whole).toArray⟩) ∧ Below w.heap.size w w' := by
  obtain ⟨N, rfl⟩ : ∃ N : Nat, n = N := ⟨n.toNat, by omega⟩
  cases whole
  · obtain ⟨S1, hS1⟩ : ∃ S : ByteArray, S = ⟨(digB (100000 + N % 100000)).toArray⟩ := ⟨_, rfl⟩
    obtain ⟨S2, hS2⟩ : ∃ S : ByteArray, S = ⟨(digB (N / 100000)).toArray⟩ := ⟨_, rfl⟩
    have HD1 := Lib.hid (fun x W (hx : x = ((100000 + N % 100000 : Nat) : Int)) => refDigitsI x (100000 + N % 100000) W hx (by omega) S1 hS1)
    have HD2 := Lib.hid (fun x W (hx : x = ((N / 100000 : Nat) : Int)) => refDigitsI x (N / 100000) W hx (by omega) S2 hS2)
    have s1 : S1.size = 6 := by rw [hS1]; exact digB_len6 _ (by omega) (by omega)
    have s2 : S2.size ≤ 20 := by rw [hS2]; exact digB_le _
    have s1a : 6 ≤ S1.size := by omega
    have s1b : S1.size ≤ 6 := by omega
    have HS1 := Lib.hid hS1
    have HS2 := Lib.hid hS2
    clear s1 hS1 hS2
    go_enter Tryz.func60, Tryz.ntmps60
    go_wp2_with (first
      | (go_at_call 103; refine (HD1.out _ _ (by omega)).mono ?_; rintro e w1 ⟨rfl, hb1⟩))
    obtain ⟨F0, hF0⟩ : ∃ F0, S1.extract 1 S1.size = F0 := ⟨_, rfl⟩
    have hF0s : F0.size = S1.size - 1 := by rw [← hF0]; simp
    have f0a : 1 ≤ F0.size := by omega
    have f0b : F0.size ≤ 5 := by omega
    have HF0 := Lib.hid hF0
    rw [hF0]
    clear hF0 hF0s
    go_loop [7] (fun v => ∃ F : ByteArray, v = .string F ∧ 1 ≤ F.size ∧ F.size ≤ 5 ∧ Hid (stripZ F0.data.toList = stripZ F.data.toList)) (fun v => match v with | .string F => F.size | _ => 0)
    case atStart => exact ⟨F0, rfl, f0a, f0b, rfl⟩
    case round =>
      obtain ⟨F, rfl, fa, fb, hst⟩ := hrel
      have hways : (1 < F.size ∧ ∃ hlt : F.size - 1 < F.size, (((F[F.size - 1]'hlt).toNat : Int) == 48) = true) ∨ (stripZ F.data.toList = F.data.toList ∧ (F.size = 1 ∨ (1 < F.size ∧ ∃ hlt : F.size - 1 < F.size, (((F[F.size - 1]'hlt).toNat : Int) == 48) = false))) := by
        by_cases h1 : 1 < F.size
        · by_cases hx : ((F[F.size - 1]'(by omega)).toNat : Int) = 48
          · exact .inl ⟨h1, by omega, by simpa using hx⟩
          · exact .inr ⟨strip_stop F h1 hx, .inr ⟨h1, by omega, by simpa using hx⟩⟩
        · exact .inr ⟨strip_one F (by omega), .inl (by omega)⟩
      rcases hways with ⟨h1, hlt, hx⟩ | ⟨hstop, hex⟩
      · have HN : Hid (stripZ F0.data.toList = stripZ (F.extract 0 (F.size - 1)).data.toList) := Lib.hid (hst.out.trans (strip_step F h1 (by simpa using hx)))
        have HSZ : Hid ((F.extract 0 (F.size - 1)).size = F.size - 1) := Lib.hid (by simp)
        go_wp2
        go_round
        case rel => exact ⟨_, rfl, by rw [HSZ.out]; omega, by rw [HSZ.out]; omega, HN⟩
        case measure => show (F.extract 0 (F.size - 1)).size < F.size; rw [HSZ.out]; omega
      · have HFR : Hid (fracB N = F.data.toList) := Lib.hid (by
          unfold fracB
          rw [← hstop, ← hst.out, ← HF0.out, Lib.extract_to_end, HS1.out])
        clear hstop
        have HR : Hid ((⟨#[]⟩ : ByteArray) ++ S2 ++ ⟨#[46]⟩ ++ F = ⟨(textB (N : Int) false).toArray⟩) := Lib.hid (by
          apply ByteArray.ext
          rw [HS2.out]
          have e0 : signB (N : Int) = [] := by unfold signB; rw [if_neg (by omega)]
          have e1 : (N : Int).natAbs = N := by omega
          simp [textB, e0, e1, HFR.out, ByteArray.data_append])
        rcases hex with hex | ⟨h1, hlt, hx⟩
        · have h1 : ¬ (1 : Int) < F.size := by omega
          go_wp2_with (first
            | (go_at_call 103; refine (HD2.out _ _ (by omega)).mono ?_; rintro e w2 ⟨rfl, hb2⟩))
          go_ret
          exact ⟨by rw [← HR.out]; rfl, hb1.trans (hb2.mono hb1.size)⟩
        · go_wp2_with (first
            | (go_at_call 103; refine (HD2.out _ _ (by omega)).mono ?_; rintro e w2 ⟨rfl, hb2⟩))
          go_ret
          exact ⟨by rw [← HR.out]; rfl, hb1.trans (hb2.mono hb1.size)⟩
  · obtain ⟨S2, hS2⟩ : ∃ S : ByteArray, S = ⟨(digB N).toArray⟩ := ⟨_, rfl⟩
    have HD2 := Lib.hid (fun x W (hx : x = (N : Int)) => refDigitsI x N W hx (by omega) S2 hS2)
    have s2 : S2.size ≤ 20 := by rw [hS2]; exact digB_le _
    have HR : Hid ((⟨#[]⟩ : ByteArray) ++ S2 = ⟨(textB (N : Int) true).toArray⟩) := Lib.hid (by
      apply ByteArray.ext
      rw [hS2]
      have e0 : signB (N : Int) = [] := by unfold signB; rw [if_neg (by omega)]
      have e1 : (N : Int).natAbs = N := by omega
      simp [textB, e0, e1, ByteArray.data_append])
    clear hS2
    go_enter Tryz.func60, Tryz.ntmps60
    go_wp2_with (first
      | (go_at_call 103; refine (HD2.out _ _ (by omega)).mono ?_; rintro e w2 ⟨rfl, hb2⟩))
    go_ret
    exact ⟨by rw [← HR.out]; rfl, hb2⟩
set_option maxHeartbeats 1000000 in
theorem refText_neg (n : Int) (whole : Bool) (w : World) (h0 : n < 0) (h1 : -9223372036854775808 ≤ n) :
    Calls Tryz.prog 60 #[.int .i64 n, .bool whole] w fun e w' => e = .returned (.string ⟨(textB n whole).toArray⟩) ∧ Below w.heap.size w w' := by
  obtain ⟨N, hN⟩ : ∃ N : Nat, n = -(N : Int) := ⟨n.natAbs, by omega⟩
  have HNN := Lib.hid hN
  have hN1 : n ≤ -(N : Int) := by omega
  have hN2 : -(N : Int) ≤ n := by omega
  have hN3 : 1 ≤ N := by omega
  clear hN
  cases whole
  · obtain ⟨S1, hS1⟩ : ∃ S : ByteArray, S = ⟨(digB (100000 + N % 100000)).toArray⟩ := ⟨_, rfl⟩
    obtain ⟨S2, hS2⟩ : ∃ S : ByteArray, S = ⟨(digB (N / 100000)).toArray⟩ := ⟨_, rfl⟩
    have HD1 := Lib.hid (fun x W (hx : x = ((100000 + N % 100000 : Nat) : Int)) => refDigitsI x (100000 + N % 100000) W hx (by omega) S1 hS1)
    have HD2 := Lib.hid (fun x W (hx : x = ((N / 100000 : Nat) : Int)) => refDigitsI x (N / 100000) W hx (by omega) S2 hS2)
    have s1 : S1.size = 6 := by rw [hS1]; exact digB_len6 _ (by omega) (by omega)
    have s2 : S2.size ≤ 20 := by rw [hS2]; exact digB_le _
    have s1a : 6 ≤ S1.size := by omega
    have s1b : S1.size ≤ 6 := by omega
    have HS1 := Lib.hid hS1
    have HS2 := Lib.hid hS2
    clear s1 hS1 hS2
    go_enter Tryz.func60, Tryz.ntmps60
    go_wp2_with (first
      | (go_at_call 103; refine (HD1.out _ _ (by omega)).mono ?_; rintro e w1 ⟨rfl, hb1⟩))
    obtain ⟨F0, hF0⟩ : ∃ F0, S1.extract 1 S1.size = F0 := ⟨_, rfl⟩
    have hF0s : F0.size = S1.size - 1 := by rw [← hF0]; simp
    have f0a : 1 ≤ F0.size := by omega
    have f0b : F0.size ≤ 5 := by omega
    have HF0 := Lib.hid hF0
    rw [hF0]
    clear hF0 hF0s
    go_loop [7] (fun v => ∃ F : ByteArray, v = .string F ∧ 1 ≤ F.size ∧ F.size ≤ 5 ∧ Hid (stripZ F0.data.toList = stripZ F.data.toList)) (fun v => match v with | .string F => F.size | _ => 0)
    case atStart => exact ⟨F0, rfl, f0a, f0b, rfl⟩
    case round =>
      obtain ⟨F, rfl, fa, fb, hst⟩ := hrel
      have hways : (1 < F.size ∧ ∃ hlt : F.size - 1 < F.size, (((F[F.size - 1]'hlt).toNat : Int) == 48) = true) ∨ (stripZ F.data.toList = F.data.toList ∧ (F.size = 1 ∨ (1 < F.size ∧ ∃ hlt : F.size - 1 < F.size, (((F[F.size - 1]'hlt).toNat : Int) == 48) = false))) := by
        by_cases h1 : 1 < F.size
        · by_cases hx : ((F[F.size - 1]'(by omega)).toNat : Int) = 48
          · exact .inl ⟨h1, by omega, by simpa using hx⟩
          · exact .inr ⟨strip_stop F h1 hx, .inr ⟨h1, by omega, by simpa using hx⟩⟩
        · exact .inr ⟨strip_one F (by omega), .inl (by omega)⟩
      rcases hways with ⟨h1, hlt, hx⟩ | ⟨hstop, hex⟩
      · have HN : Hid (stripZ F0.data.toList = stripZ (F.extract 0 (F.size - 1)).data.toList) := Lib.hid (hst.out.trans (strip_step F h1 (by simpa using hx)))
        have HSZ : Hid ((F.extract 0 (F.size - 1)).size = F.size - 1) := Lib.hid (by simp)
        go_wp2
        go_round
        case rel => exact ⟨_, rfl, by rw [HSZ.out]; omega, by rw [HSZ.out]; omega, HN⟩
        case measure => show (F.extract 0 (F.size - 1)).size < F.size; rw [HSZ.out]; omega
      · have HFR : Hid (fracB N = F.data.toList) := Lib.hid (by
          unfold fracB
          rw [← hstop, ← hst.out, ← HF0.out, Lib.extract_to_end, HS1.out])
        clear hstop
        have HR : Hid ((⟨#[45]⟩ : ByteArray) ++ S2 ++ ⟨#[46]⟩ ++ F = ⟨(textB n false).toArray⟩) := Lib.hid (by
          apply ByteArray.ext
          rw [HS2.out]
          have e0 : signB n = [45] := by unfold signB; rw [if_pos (by omega)]
          have e1 : n.natAbs = N := by omega
          simp [textB, e0, e1, HFR.out, ByteArray.data_append])
        rcases hex with hex | ⟨h1, hlt, hx⟩
        · have h1 : ¬ (1 : Int) < F.size := by omega
          go_wp2_with (first
            | (go_at_call 103; refine (HD2.out _ _ (by omega)).mono ?_; rintro e w2 ⟨rfl, hb2⟩))
          go_ret
          exact ⟨by rw [← HR.out]; rfl, hb1.trans (hb2.mono hb1.size)⟩
        · go_wp2_with (first
            | (go_at_call 103; refine (HD2.out _ _ (by omega)).mono ?_; rintro e w2 ⟨rfl, hb2⟩))
          go_ret
          exact ⟨by rw [← HR.out]; rfl, hb1.trans (hb2.mono hb1.size)⟩
  · obtain ⟨S2, hS2⟩ : ∃ S : ByteArray, S = ⟨(digB N).toArray⟩ := ⟨_, rfl⟩
    have HD2 := Lib.hid (fun x W (hx : x = (N : Int)) => refDigitsI x N W hx (by omega) S2 hS2)
    have s2 : S2.size ≤ 20 := by rw [hS2]; exact digB_le _
    have HR : Hid ((⟨#[45]⟩ : ByteArray) ++ S2 = ⟨(textB n true).toArray⟩) := Lib.hid (by
      apply ByteArray.ext
      rw [hS2]
      have e0 : signB n = [45] := by unfold signB; rw [if_pos (by omega)]
      have e1 : n.natAbs = N := by omega
      simp [textB, e0, e1, ByteArray.data_append])
    clear hS2
    go_enter Tryz.func60, Tryz.ntmps60
    go_wp2_with (first
      | (go_at_call 103; refine (HD2.out _ _ (by omega)).mono ?_; rintro e w2 ⟨rfl, hb2⟩))
    go_ret
    exact ⟨by rw [← HR.out]; rfl, hb2⟩
/-- Text, whatever the number. -/
theorem refText (n : Int) (whole : Bool) (w : World) (h0 : -9223372036854775808 ≤ n) (h1 : n ≤ 9223372036854775807) :
    Calls Tryz.prog 60 #[.int .i64 n, .bool whole] w fun e w' => e = .returned (.string ⟨(textB n whole).toArray⟩) ∧ Below w.heap.size w w' := by
  by_cases h : n < 0
  · exact refText_neg n whole w h h0
  · exact refText_pos n whole w (by omega) h1
end
end Go.Proofs.YtliieeagbpmcgaaGreatDoor
