/- Chapter 10: the sort of entries: two stretches that rise are merged. Chapter 10: the sort of entries, whole: what the library's stable sort leaves. -/
import Derived.Test.YtkloipjkialakaaSym10
import Derived.Test.YtkloipjkialakaaSyn10
namespace Go.Proofs.Ytkloipjkialakaa
open Go.RowKit Go.Sort
set_option linter.unusedVariables false
set_option maxRecDepth 100000

theorem symC (w0 : World) (blk off cap B : Nat) (d0 : Array Rw) (N : Nat) (R : RW6 w0 blk off d0) (hC : CmpOk w0 blk B) (hs : N = d0.size) (hsz : N < 4611686018427387904) : ∀ NN : Nat, SymIH w0 blk off cap B N NN
  | 0 => by
    intro a m b d w P U V Q hN S hd ha hU hV hu0 hv0 hSU hSV hNN
    omega
  | NN + 1 => by
    intro a m b d w P U V Q hN S hd ha hU hV hu0 hv0 hSU hSV hNN
    have IH := symC w0 blk off cap B d0 N R hC hs hsz NN
    by_cases hu1 : U.length = 1
    · obtain ⟨u, rfl⟩ : ∃ u, U = [u] := List.length_eq_one_iff.1 hu1
      have := symLC w0 blk off cap a b B d0 d N w R hC (by omega) hN S P V Q u hd ha (by simp at hU; omega) hSV (by omega)
      rw [show ((m : Nat) : Int) = (a : Int) + 1 by simp at hU; omega]
      exact this
    · by_cases hv1 : V.length = 1
      · obtain ⟨v, rfl⟩ : ∃ v, V = [v] := List.length_eq_one_iff.1 hv1
        have := symRC w0 blk off cap a m B d0 d N w R hC (by omega) hN S P U Q v hd ha hU (by omega) hSU (by omega)
        rw [show ((b : Nat) : Int) = (m : Int) + 1 by simp at hV; omega]
        exact this
      · have hbN : b ≤ N := by
          have := size_split d _ hd
          simp at this; omega
        rcases Nat.lt_or_ge ((a + b) / 2) m with hA | hA
        · exact symAC w0 blk off cap B d0 N R hC hs hsz NN IH a m b _ d w P U V Q hN S hd ha hU hV (by omega) (by omega) hSU hSV hNN rfl hA hbN
        · exact symBC w0 blk off cap B d0 N R hC hs hsz NN IH a m b _ d w P U V Q hN S hd ha hU hV (by omega) (by omega) hSU hSV hNN rfl hA hbN
/-- Blocks of a length, each rising; a shorter one behind them. -/
def Blk (bs : Nat) (L : List Rw) : Prop := ∃ (Xs : List (List Rw)) (Y : List Rw), L = Xs.flatten ++ Y ∧ (∀ X ∈ Xs, X.length = bs ∧ Srt keyR X) ∧ Y.length < bs ∧ Srt keyR Y
theorem flat_len {bs : Nat} : ∀ (Xs : List (List Rw)), (∀ X ∈ Xs, X.length = bs ∧ Srt keyR X) → Xs.flatten.length = Xs.length * bs
  | [], _ => by simp
  | X :: Xs, h => by
    have := flat_len Xs (fun Y hY => h Y (by simp [hY]))
    have h1 := (h X (by simp)).1
    rw [List.flatten_cons, List.length_append, this, h1, List.length_cons, Nat.add_mul]; omega
theorem Blk.two {bs : Nat} {L : List Rw} (h : Blk bs L) (hl : 2 * bs ≤ L.length) : ∃ X1 X2 T, L = X1 ++ (X2 ++ T) ∧ X1.length = bs ∧ X2.length = bs ∧ Srt keyR X1 ∧ Srt keyR X2 ∧ Blk bs T := by
  obtain ⟨Xs, Y, rfl, hX, hY, hS⟩ := h
  have hf := flat_len Xs hX
  match Xs, hX, hf, hl with
  | [], hX, hf, hl => simp at hl; omega
  | [X], hX, hf, hl => simp at hl hf; omega
  | X1 :: X2 :: T, hX, hf, hl =>
    exact ⟨X1, X2, T.flatten ++ Y, by simp [List.append_assoc], (hX X1 (by simp)).1, (hX X2 (by simp)).1, (hX X1 (by simp)).2, (hX X2 (by simp)).2, T, Y, rfl, fun X h => hX X (by simp [h]), hY, hS⟩
theorem Blk.one {bs : Nat} {L : List Rw} (h : Blk bs L) (hl : L.length ≤ bs) : Srt keyR L := by
  obtain ⟨Xs, Y, rfl, hX, hY, hS⟩ := h
  have hf := flat_len Xs hX
  match Xs, hX, hf, hl with
  | [], hX, hf, hl => simpa using hS
  | [X], hX, hf, hl =>
    simp at hl hf
    have : Y = [] := List.eq_nil_of_length_eq_zero (by omega)
    subst this
    simpa using (hX X (by simp)).2
  | X1 :: X2 :: T, hX, hf, hl => simp [Nat.add_mul] at hl hf; omega
theorem Blk.mid {bs : Nat} {L : List Rw} (h : Blk bs L) (hl : bs < L.length) (hl2 : L.length < 2 * bs) : ∃ X Y, L = X ++ Y ∧ X.length = bs ∧ 0 < Y.length ∧ Srt keyR X ∧ Srt keyR Y := by
  obtain ⟨Xs, Y, rfl, hX, hY, hS⟩ := h
  have hf := flat_len Xs hX
  match Xs, hX, hf, hl, hl2 with
  | [], hX, hf, hl, _ => simp at hl; omega
  | [X], hX, hf, hl, _ =>
    simp at hl hf
    exact ⟨X, Y, by simp, (hX X (by simp)).1, by omega, (hX X (by simp)).2, hS⟩
  | X1 :: X2 :: T, hX, hf, _, hl => simp [Nat.add_mul] at hl hf; omega
/-- Blocks alone. -/
def Blks (bs : Nat) (L : List Rw) : Prop := ∃ Xs : List (List Rw), L = Xs.flatten ∧ ∀ X ∈ Xs, X.length = bs ∧ Srt keyR X
theorem Blks.nil (bs : Nat) : Blks bs [] := ⟨[], rfl, fun _ h => by cases h⟩
theorem Blks.snoc {bs : Nat} {L X : List Rw} (h : Blks bs L) (hX : X.length = bs) (hS : Srt keyR X) : Blks bs (L ++ X) := by
  obtain ⟨Xs, rfl, hXs⟩ := h
  exact ⟨Xs ++ [X], by simp, fun Z hZ => by
    rcases List.mem_append.1 hZ with hZ | hZ
    · exact hXs Z hZ
    · simp at hZ; subst hZ; exact ⟨hX, hS⟩⟩
theorem Blks.last {bs : Nat} {L Y : List Rw} (h : Blks bs L) (hY : Y.length < bs) (hS : Srt keyR Y) : Blk bs (L ++ Y) := by
  obtain ⟨Xs, rfl, hXs⟩ := h
  exact ⟨Xs, Y, rfl, hXs, hY, hS⟩
theorem symI (w0 : World) (blk off cap B : Nat) (d0 : Array Rw) (N : Nat) (R : RW6 w0 blk off d0) (hC : CmpOk w0 blk B) (hs : N = d0.size) (hsz : N < 4611686018427387904) (a m b : Nat) (mz bz : Int) (hmz : mz = m) (hbz : bz = b) (d : Array Rw) (w : World) (P U V Q : List Rw) (hN : d.size = N) (S : SW6 w0 blk off d w) (hd : d.toList = P ++ (U ++ (V ++ Q))) (ha : P.length = a) (hU : a + U.length = m) (hV : m + V.length = b) (h1 : 0 < U.length) (h2 : 0 < V.length) (s1 : Srt keyR U) (s2 : Srt keyR V) :
    Calls Try.prog 98 #[.slice (some ⟨blk, off, none⟩) N cap, .int .i64 a, .int .i64 mz, .int .i64 bz, cmpF B] w (MrgP w0 blk off N P Q (U ++ V)) := by
  subst hmz hbz
  exact symC w0 blk off cap B d0 N R hC hs hsz _ a m b d w P U V Q hN S hd ha hU hV h1 h2 s1 s2 (Nat.le_refl _)
theorem insertI (w0 : World) (blk off cap a b B : Nat) (bz : Int) (hbz : bz = b) (d0 d : Array Rw) (N : Nat) (w : World) (R : RW6 w0 blk off d0) (hC : CmpOk w0 blk B) (hs : d.size = d0.size) (hN : d.size = N) (S : SW6 w0 blk off d w) (P U Q : List Rw) (hd : d.toList = P ++ (U ++ Q)) (ha : P.length = a) (hU : a + U.length = b) (hsz : d.size < 4611686018427387904) :
    Calls Try.prog 97 #[.slice (some ⟨blk, off, none⟩) N cap, .int .i64 a, .int .i64 bz, cmpF B] w fun e w' => e = .returned (.tuple #[]) ∧ ∃ (d' : Array Rw) (U' : List Rw), d'.toList = P ++ (U' ++ Q) ∧ Srt keyR U' ∧ Stb keyR U U' ∧ d'.size = N ∧ SW6 w0 blk off d' w' := by
  subst hbz
  exact insertC w0 blk off cap a b B d0 d N w R hC hs hN S P U Q hd ha hU hsz
set_option maxHeartbeats 16000000 in
theorem stableC (w0 : World) (blk off cap B : Nat) (d0 d : Array Rw) (N : Nat) (w : World) (R : RW6 w0 blk off d0) (hC : CmpOk w0 blk B) (hs : N = d0.size) (hN : d.size = N) (S : SW6 w0 blk off d w) (hsz : N < 1000000000000) :
    Calls Try.prog 92 #[.slice (some ⟨blk, off, none⟩) N cap, .int .i64 N, cmpF B] w fun e w' => e = .returned (.tuple #[]) ∧ ∃ d' : Array Rw, Srt keyR d'.toList ∧ Stb keyR d.toList d'.toList ∧ d'.size = N ∧ SW6 w0 blk off d' w' := by
  obtain ⟨L0, hL0⟩ : ∃ L0, d.toList = L0 := ⟨_, rfl⟩
  have hlen : L0.length = N := by rw [← hL0]; simpa using hN
  rw [hL0]
  have S0 := Lib.hid S
  have HD := Lib.hid hL0
  have HN := Lib.hid hN
  have HS := Lib.hid hs
  have HL0 := Lib.hid hlen
  clear S hs hN hL0 hlen
  go_enter Try.func92, Try.ntmps92
  go_wp2_with fail
  go_loopw [7, 8] (fun av bv wr => ∃ (a : Nat) (D T : List Rw) (dk : Array Rw), av = .int .i64 a ∧ bv = .int .i64 ((a : Int) + 20) ∧ a ≤ N ∧ Hid (D.length = a) ∧ Hid (a + T.length = N) ∧ Hid (dk.toList = D ++ T) ∧ Hid (Blks 20 D) ∧ Hid (Stb keyR L0 (D ++ T)) ∧ Hid (dk.size = N) ∧ Hid (SW6 w0 blk off dk wr)) (fun av _ _ => N - (intOf av).toNat)
  case atStart => exact ⟨0, [], L0, d, rfl, rfl, Nat.zero_le _, Lib.hid rfl, Lib.hid (by rw [HL0.out]; simp), HD, Lib.hid (Blks.nil _), Lib.hid (Stb.refl _), HN, S0⟩
  case round =>
    clear S0
    obtain ⟨a, D, T, dk, rfl, rfl, haN, HDL, HTL, HL, HB, HST, HZ, SH⟩ := hrel
    by_cases hlt : a + 20 ≤ N
    · have hltz : (a : Int) + 20 ≤ (N : Int) := by omega
      obtain ⟨X, T2, rfl, hX⟩ : ∃ X T2, T = X ++ T2 ∧ X.length = 20 := ⟨T.take 20, T.drop 20, (List.take_append_drop _ _).symm, by have := HTL.out; simp; omega⟩
      have HIN := Lib.hid (insertI w0 blk off cap a (a + 20) B ((a : Int) + 20) (by omega) d0 dk N wr R hC (by rw [HZ.out]; exact HS.out) HZ.out SH.out D X T2 (by rw [HL.out]) HDL.out (by omega) (by rw [HZ.out]; omega))
      have HXL := Lib.hid hX
      clear hX SH
      go_wp2_with (go_at_call 97; (with_reducible refine HIN.out.mono ?_); (rintro r w2 ⟨rfl, d1, X1, hl1, hs1, hb1, hz1, hw1⟩); have HL1 := Lib.hid hl1; have HS1 := Lib.hid hs1; have HB1 := Lib.hid hb1; have HZ1 := Lib.hid hz1; have HW1 := Lib.hid hw1; clear hl1 hs1 hb1 hz1 hw1 HIN)
      go_roundw
      case rel => exact ⟨a + 20, D ++ X1, T2, d1, by go_num, by first | rfl | go_num, by omega, Lib.hid (by have := HB1.out.len; have := HXL.out; have := HDL.out; simp; omega), Lib.hid (by have := HTL.out; have := HXL.out; simp at *; omega), Lib.hid (by rw [HL1.out]; simp [List.append_assoc]), Lib.hid (HB.out.snoc (by rw [HB1.out.len]; exact HXL.out) HS1.out), Lib.hid (by rw [List.append_assoc]; exact HST.out.trans ((Stb.refl D).app (HB1.out.app (Stb.refl T2)))), HZ1, HW1⟩
      case measure => simp [intOf]; omega
    · have hltz : ¬ (a : Int) + 20 ≤ (N : Int) := by omega
      have HIN := Lib.hid (insertI w0 blk off cap a N B N rfl d0 dk N wr R hC (by rw [HZ.out]; exact HS.out) HZ.out SH.out D T [] (by rw [HL.out]; simp) HDL.out HTL.out (by rw [HZ.out]; omega))
      clear SH
      go_wp2_with (go_at_call 97; (with_reducible refine HIN.out.mono ?_); (rintro r w2 ⟨rfl, d1, X1, hl1, hs1, hb1, hz1, hw1⟩); have HL1 := Lib.hid hl1; have HS1 := Lib.hid hs1; have HB1 := Lib.hid hb1; have HZ1 := Lib.hid hz1; have HW1 := Lib.hid hw1; clear hl1 hs1 hb1 hz1 hw1 HIN)
      have HBK : Hid (Blk 20 (D ++ X1)) := Lib.hid (HB.out.last (by rw [HB1.out.len]; have := HTL.out; omega) HS1.out)
      have HST1 : Hid (Stb keyR L0 (D ++ X1)) := Lib.hid (HST.out.trans ((Stb.refl D).app HB1.out))
      have HLL : Hid (d1.toList = D ++ X1) := Lib.hid (by rw [HL1.out]; simp)
      clear HL1 HS1 HB1 HDL HTL HL HB HST HZ hlt hltz
      go_loopw [6] (fun sv wr => ∃ (bs : Nat) (dk : Array Rw), sv = .int .i64 bs ∧ 20 ≤ bs ∧ bs < 4000000000000 ∧ Hid (Blk bs dk.toList) ∧ Hid (Stb keyR L0 dk.toList) ∧ Hid (dk.size = N) ∧ Hid (SW6 w0 blk off dk wr)) (fun sv _ => N - (intOf sv).toNat)
      case atStart => exact ⟨20, d1, rfl, by omega, by omega, Lib.hid (by rw [HLL.out]; exact HBK.out), Lib.hid (by rw [HLL.out]; exact HST1.out), HZ1, HW1⟩
      case round =>
        clear HZ1 HW1 HLL HBK HST1
        obtain ⟨bs, dk, rfl, hb20, hbm, HBK, HST, HZ, SH⟩ := hrel
        by_cases hlt : bs < N
        · have hltz : (bs : Int) < (N : Int) := by omega
          go_wp2_with fail
          go_loopw [7, 8] (fun av bv wr => ∃ (a : Nat) (D T : List Rw) (dk : Array Rw), av = .int .i64 a ∧ bv = .int .i64 ((a : Int) + 2 * (bs : Int)) ∧ a ≤ N ∧ Hid (D.length = a) ∧ Hid (a + T.length = N) ∧ Hid (dk.toList = D ++ T) ∧ Hid (Blks (2 * bs) D) ∧ Hid (Blk bs T) ∧ Hid (Stb keyR L0 (D ++ T)) ∧ Hid (dk.size = N) ∧ Hid (SW6 w0 blk off dk wr)) (fun av _ _ => N - (intOf av).toNat)
          case atStart => exact ⟨0, [], dk.toList, dk, rfl, by simp, Nat.zero_le _, Lib.hid rfl, Lib.hid (by simpa using HZ.out), Lib.hid rfl, Lib.hid (Blks.nil _), HBK, HST, HZ, SH⟩
          case round =>
            clear SH HZ HST HBK
            obtain ⟨a, D, T, dk, rfl, rfl, haN, HDL, HTL, HL, HB, HBK, HST, HZ, SH⟩ := hrel
            by_cases hlt2 : a + 2 * bs ≤ N
            · have hltz2 : (a : Int) + 2 * (bs : Int) ≤ (N : Int) := by omega
              obtain ⟨X1, X2, T2, hT, hX1, hX2, hS1, hS2, hB2⟩ := HBK.out.two (by have := HTL.out; omega)
              have HIN := Lib.hid (symI w0 blk off cap B d0 N R hC HS.out (by omega) a (a + bs) (a + 2 * bs) ((a : Int) + bs) ((a : Int) + 2 * (bs : Int)) (by omega) (by omega) dk wr D X1 X2 T2 HZ.out SH.out (by rw [HL.out, hT]) HDL.out (by omega) (by omega) (by omega) (by omega) hS1 hS2)
              have HT := Lib.hid hT
              have HX1 := Lib.hid hX1
              have HX2 := Lib.hid hX2
              have HB2 := Lib.hid hB2
              clear hT hX1 hX2 hS1 hS2 hB2 SH
              go_wp2_with (go_at_call 98; (with_reducible refine HIN.out.mono ?_); (rintro r w2 ⟨rfl, d2, N1, hl1, hs1, hb1, hz1, hw1⟩); have HL1 := Lib.hid hl1; have HS1 := Lib.hid hs1; have HB1 := Lib.hid hb1; have HZ1 := Lib.hid hz1; have HW1 := Lib.hid hw1; clear hl1 hs1 hb1 hz1 hw1 HIN)
              go_roundw
              case rel => exact ⟨a + 2 * bs, D ++ N1, T2, d2, by first | go_num | exact int_eq (by omega), by first | rfl | go_num | exact int_eq (by omega), by omega, Lib.hid (by have := HB1.out.len; have := HX1.out; have := HX2.out; have := HDL.out; simp at *; omega), Lib.hid (by have h1 := HTL.out; rw [HT.out] at h1; have := HX1.out; have := HX2.out; simp at *; omega), Lib.hid (by rw [HL1.out]; simp [List.append_assoc]), Lib.hid (HB.out.snoc (by rw [HB1.out.len]; have := HX1.out; have := HX2.out; simp; omega) HS1.out), HB2, Lib.hid (by have := HST.out.trans ((Stb.refl D).app (show Stb keyR T (N1 ++ T2) from (by rw [HT.out, ← List.append_assoc]; exact HB1.out.app (Stb.refl T2)))); simpa [List.append_assoc] using this), HZ1, HW1⟩
              case measure => simp [intOf]; omega
            · have hltz2 : ¬ (a : Int) + 2 * (bs : Int) ≤ (N : Int) := by omega
              by_cases hm : a + bs < N
              · have hmz : (a : Int) + (bs : Int) < (N : Int) := by omega
                obtain ⟨X1, X2, hT, hX1, hX2, hS1, hS2⟩ := HBK.out.mid (by have := HTL.out; omega) (by have := HTL.out; omega)
                have HIN := Lib.hid (symI w0 blk off cap B d0 N R hC HS.out (by omega) a (a + bs) N ((a : Int) + bs) N (by omega) rfl dk wr D X1 X2 [] HZ.out SH.out (by rw [HL.out, hT]; simp) HDL.out (by omega) (by have h1 := HTL.out; rw [hT] at h1; simp at h1; omega) (by omega) (by omega) hS1 hS2)
                have HT := Lib.hid hT
                clear hT hX1 hX2 hS1 hS2 SH
                go_wp2_with (go_at_call 98; (with_reducible refine HIN.out.mono ?_); (rintro r w2 ⟨rfl, d2, N1, hl1, hs1, hb1, hz1, hw1⟩); have HL1 := Lib.hid hl1; have HS1 := Lib.hid hs1; have HB1 := Lib.hid hb1; have HZ1 := Lib.hid hz1; have HW1 := Lib.hid hw1; clear hl1 hs1 hb1 hz1 hw1 HIN)
                go_roundw
                case rel => exact ⟨2 * bs, d2, by first | go_num | exact int_eq (by omega), by omega, by omega, Lib.hid (by rw [HL1.out, List.append_nil]; exact HB.out.last (by rw [HB1.out.len, ← HT.out]; have := HTL.out; omega) HS1.out), Lib.hid (by rw [HL1.out, List.append_nil]; exact HST.out.trans ((Stb.refl D).app (by rw [HT.out]; exact HB1.out))), HZ1, HW1⟩
                case measure => simp [intOf]; omega
              · have hmz : ¬ (a : Int) + (bs : Int) < (N : Int) := by omega
                have hS1 := HBK.out.one (by have := HTL.out; omega)
                have HS1 := Lib.hid hS1
                clear hS1
                go_wp2_with fail
                go_roundw
                case rel => exact ⟨2 * bs, dk, by first | go_num | exact int_eq (by omega), by omega, by omega, Lib.hid (by rw [HL.out]; exact HB.out.last (by have := HTL.out; omega) HS1.out), Lib.hid (by rw [HL.out]; exact HST.out), HZ, SH⟩
                case measure => simp [intOf]; omega
        · have hltz : ¬ (bs : Int) < (N : Int) := by omega
          go_wp2_with fail
          go_end0
          exact ⟨rfl, dk, HBK.out.one (by have := HZ.out; simp; omega), HST.out, HZ.out, SH.out⟩
end Go.Proofs.Ytkloipjkialakaa
