/- Chapter 8, the document's own LzwDecode. -/
import Derived.Test.YtpnnejedfccckaaDq8
import Derived.StillTailTactics
import Derived.Deep.Cut
import Derived.Deep.CutBlock
import Derived.Deep.LoopGhost
import Derived.Deep.RegionLaw
import Derived.Deep.RegionHeld3
import Derived.WalkSpells
import Derived.Lib.SliceRun
namespace Go.Proofs.Ytpnnejedfccckaa
open Go.RowKit
set_option linter.unusedVariables false
set_option maxRecDepth 100000

/-- What the reader of codes knows between two codes. -/
structure DlS (w0 w : World) (ks : Nat) (v tv lv : Value) (zs : List Int) (n p : Nat) (T : List (List Int)) (last out : List Int) (M : Nat) (bad : Int) (R : List Int × Int) : Prop where
  st : ∃ vals, DeS w0 w w0.heap.size ks v tv lv vals T last out M bad
  now : ∃ f, 8 * n + 1 ≤ p + f ∧ StS (lzD M zs f p T last out) bad R
  pos : bad = 0 → p ≤ 8 * n
  pos2 : p ≤ 8 * n + 12
  len : LenT T last
  out_ : out.length ≤ 427 * p
theorem DlS.bad_ {w0 w : World} {ks : Nat} {v tv lv : Value} {zs : List Int} {n p p' : Nat} {T : List (List Int)} {last out : List Int} {M : Nat} {bad' : Int} {R : List Int × Int} (h : DlS w0 w ks v tv lv zs n p T last out M 0 R) {w' : World} (hs : Snk w' w0.heap.size ks v out M bad') (hk : KeepS ks v w v w') (hb : ¬ bad' = 0) (hR : R = ([], bad')) (hp : p ≤ p') (hp2 : p' ≤ 8 * n + 12) :
    DlS w0 w' ks v tv lv zs n p' T last out M bad' R := by
  obtain ⟨vals, hd⟩ := h.st
  obtain ⟨f, hf, _⟩ := h.now
  exact ⟨⟨vals, hd.put hk hs⟩, ⟨f, by omega, .inr ⟨hb, hR⟩⟩, (fun e => absurd e hb), hp2, h.len, by have := h.out_; omega⟩
theorem DeS.after {w0 w : World} {ks : Nat} {v2 tv lv xv : Value} {zs : List Int} {n P : Nat} {vals : List Value} {T T' : List (List Int)} {last out out2 x : List Int} {M : Nat} {bad2 : Int} {R : List Int × Int} (hd : DeS w0 w w0.heap.size ks v2 tv lv vals T' last out2 M bad2) (hx : RwS w w0.heap.size ks v2 tv xv x) (hT : T' = lzT T last x) (hp : PutS out x out2 M x.length bad2)
    (hf : ∃ f, 8 * n + 1 ≤ P + f ∧ (if out.length + x.length ≤ M then lzD M zs f P (lzT T last x) x (out ++ x) else ([], 7)) = R) (hl : LenT (lzT T last x) x) (hP : P ≤ 8 * n) (ho : out2.length ≤ 427 * P) (h0 : 0 < x.length) : DlS w0 w ks v2 tv xv zs n P T' x out2 M bad2 R := by
  obtain ⟨f, hf1, hf2⟩ := hf
  have h := hp.done h0 hf2 (fun _ => rfl)
  refine ⟨⟨vals, hd.last_ hx⟩, ⟨f, hf1, ?_⟩, fun _ => hP, by omega, by rw [hT]; exact hl, ho⟩
  rcases h.1 with ⟨hb, e⟩ | h1
  · refine .inl ⟨hb, ?_⟩
    rw [hT, h.2 hb]
    exact e
  · exact .inr h1
set_option maxHeartbeats 8000000 in
theorem refLzD (A : Option Addr) (n c : Nat) (most : Int) (zs : List Int) (w : World) (hb : Byt w w.heap.size A n c zs) (hn : n ≤ 28000) (m0 : -9223372036854775808 ≤ most) (m1 : most ≤ 9223372036854775807) (R : List Int × Int) (hR : lzDec (max most 0).toNat zs = R) :
    Calls Try.prog 12 #[.slice A n c, .int .i64 most] w (ReadPost w R) := by
  have HB := Lib.hid hb
  have HL := Lib.hid hb.len
  obtain ⟨M, hM⟩ : ∃ M : Nat, (max most 0).toNat = M := ⟨_, rfl⟩
  rw [hM] at hR
  have hM2 : max most 0 = (M : Int) := by omega
  clear hM
  have HS0 : Hid (DlS w (w.alloc (.cells #[.slice none 0 0, .int .i64 M, .int .i64 0] 57)) w.heap.size (.slice none 0 0) (.slice none 0 0) (.slice none 0 0) zs n 0 [] [] [] M 0 R) := Lib.hid
    ⟨⟨[], Snk.new w w.heap.size M (Nat.le_refl _), OwnV.nil _ _ _, rfl, (fun k h => absurd h (Nat.not_lt_zero _)), .inl ⟨rfl, rfl⟩, (fun e => by cases e), (fun b h => by cases h), (Below.refl _ _).alloc (Nat.le_refl _) _⟩,
      ⟨8 * n + 1, by omega, .inl ⟨rfl, by rw [← HL.out]; exact hR⟩⟩, (fun _ => Nat.zero_le _), by omega, LenT.start, by simp⟩
  have en1 : ∀ W, (binOp .eql 23 (.slice none 0 0) (.slice none 0 0)).run Try.prog W = .ok (.bool true) W := fun W => Lib.run_eql_slice_nil (P := Try.prog) W 23 5 none 0 0 0 0 Try.underlying23
  have en2 : ∀ W a l k, (binOp .eql 23 (.slice (some a) l k) (.slice none 0 0)).run Try.prog W = .ok (.bool false) W := fun W a l k => Lib.run_eql_slice_nil (P := Try.prog) W 23 5 (some a) l k 0 0 Try.underlying23
  have en3 : ∀ W, (binOp .neq 23 (.slice none 0 0) (.slice none 0 0)).run Try.prog W = .ok (.bool false) W := fun W => run_neq_slice_nil_any (P := Try.prog) W 23 5 none 0 0 0 0 Try.underlying23
  have en4 : ∀ W a l k, (binOp .neq 23 (.slice (some a) l k) (.slice none 0 0)).run Try.prog W = .ok (.bool true) W := fun W a l k => run_neq_slice_nil_any (P := Try.prog) W 23 5 (some a) l k 0 0 Try.underlying23
  clear hb hR
  go_enter Try.func12, Try.ntmps12
  go_wp2_with fail
  go_loopw [7, 8, 9, 10, 11, 12, 13, 14] (fun tx lx nx px _ _ _ _ wr => ∃ (v tv lv : Value) (NX p : Nat) (T : List (List Int)) (last out : List Int) (bad : Int), tv = tx ∧ lv = lx ∧ nx = .int .i64 NX ∧ px = .int .i64 p ∧ p ≤ 8 * n + 12 ∧ Hid (NX = 258 + T.length) ∧ Hid (DlS w wr w.heap.size v tv lv zs n p T last out M bad R)) (fun _ _ _ px _ _ _ _ _ => 8 * n + 13 - (intOf px).toNat)
  case atStart => exact ⟨_, _, _, 258, 0, [], [], [], 0, rfl, rfl, rfl, rfl, by omega, Lib.hid rfl, HS0⟩
  case round =>
    obtain ⟨v, tv, lv, NX, p, T, last, out, bad, rfl, rfl, rfl, rfl, hp12, HNX, HD⟩ := hrel
    obtain ⟨vals, hde⟩ := HD.out.st
    have c2 := hde.snk.c2
    have HDE := Lib.hid hde
    clear hde
    by_cases hbad : bad = 0
    · subst hbad
      have hpn := HD.out.pos rfl
      have hfew := HD.out.len.few
      have hol := HD.out.out_
      have hnx := HNX.out
      have hNX4 : NX ≤ 4096 := by omega
      have HWD := Lib.hid (fun W => widthC NX W (by omega))
      obtain ⟨WD, hWD⟩ : ∃ WD, wdZ NX = WD := ⟨_, rfl⟩
      have hwd := wdZ_bd NX
      rw [hWD] at HWD hwd
      have HBY := Lib.hid (HB.out.below HDE.out.low (Nat.le_refl _))
      have HHI := Lib.hid (highC A n c _ p WD zs wr HBY.out (by omega) (by omega) (by omega))
      have hcb := high_bd zs p WD hwd.2
      obtain ⟨cv, hcv⟩ : ∃ cv, highZ zs p WD = cv := ⟨_, rfl⟩
      rw [hcv] at HHI hcb
      rw [HL.out] at hcb
      have HNOW : Hid (∃ f, 8 * n + 1 ≤ p + WD + f ∧ (if cv < 0 then ([], 2) else if cv = 256 then lzD M zs f (p + WD) [] [] out else if cv = 257 then (out, 0) else match lzRow T last cv with
          | none => ([], 4)
          | some x => if out.length + x.length ≤ M then lzD M zs f (p + WD) (lzT T last x) x (out ++ x) else ([], 7)) = R) := Lib.hid (by
        obtain ⟨f, hf, hs⟩ := HD.out.now
        have h := hs.ok8
        obtain ⟨f, rfl⟩ : ∃ j, f = j + 1 := ⟨f - 1, by omega⟩
        refine ⟨f, by omega, ?_⟩
        rw [lzD, ← hnx, hWD, hcv] at h
        exact h)
      obtain ⟨P, hP⟩ : ∃ P, p + WD = P := ⟨_, rfl⟩
      rw [hP] at HNOW hcb
      have eP : (p : Int) + WD = P := by omega
      have wP : IntKind.i64.wrap (P : Int) = P := IntWalk.i64_in _ (by omega)
      have hpP : p + 9 ≤ P ∧ P ≤ p + 12 := by omega
      have HWE := Lib.hid hWD
      clear hWD hcv hP hnx
      have hnb : 8 * n + 13 - P < 8 * n + 13 - p := by omega
      by_cases hneg : cv < 0
      · have HR : Hid (R = ([], 2)) := Lib.hid (by
          obtain ⟨f, _, h⟩ := HNOW.out
          rw [if_pos hneg] at h
          exact h.symm)
        have HF := Lib.hid (fun q => skfailX w.heap.size w.heap.size M 2 v out (wr.drewN q) (HDE.out.snk.drewN q))
        have hP2 : P ≤ 8 * n + 12 := by omega
        go_wp2_with (first
          | (go_at_call 20; with_reducible refine (HWD.out _).mono ?_; (rintro r w3 ⟨rfl, rfl⟩))
          | (go_at_call 21; refine HHI.out.mono ?_; (rintro r w3 ⟨rfl, q3, rfl⟩))
          | (go_at_call 22; refine (HF.out q3).mono ?_; (rintro r w4 ⟨rfl, hs4, hk4⟩); have HN4 := Lib.hid (HD.out.bad_ (p' := P) hs4 ⟨hk4.os, hk4.tape, hk4.output, hk4.size, hk4.block, hk4.own⟩ (by decide) HR.out (by omega) hP2); clear hs4 hk4))
        go_roundw
        case rel => exact ⟨_, _, _, NX, P, T, last, out, 2, rfl, rfl, rfl, rfl, hP2, HNX, HN4⟩
        case measure => simpa [intOf] using hnb
      · by_cases h256 : cv = 256
        · subst h256
          have hPn : P ≤ 8 * n := by omega
          have HN4 : Hid (∀ q, DlS w (wr.drewN q) w.heap.size v (.slice none 0 0) (.slice none 0 0) zs n P [] [] out M 0 R) := Lib.hid (fun q => by
            obtain ⟨f, hf, h⟩ := HNOW.out
            rw [if_neg (by omega), if_pos rfl] at h
            exact ⟨⟨[], HDE.out.clear.drewN q⟩, ⟨f, hf, .inl ⟨rfl, h⟩⟩, (fun _ => hPn), by omega, LenT.start, by omega⟩)
          go_wp2_with (first
            | (go_at_call 20; with_reducible refine (HWD.out _).mono ?_; (rintro r w3 ⟨rfl, rfl⟩))
            | (go_at_call 21; refine HHI.out.mono ?_; (rintro r w3 ⟨rfl, q3, rfl⟩)))
          go_roundw
          case rel => exact ⟨v, _, _, 258, P, [], [], out, 0, rfl, rfl, rfl, rfl, by omega, Lib.hid rfl, Lib.hid (HN4.out _)⟩
          case measure => simpa [intOf] using hnb
        · by_cases h257 : cv = 257
          · subst h257
            have HR : Hid (R = (out, 0)) := Lib.hid (by
              obtain ⟨f, _, h⟩ := HNOW.out
              rw [if_neg (by omega), if_neg (by omega), if_pos rfl] at h
              exact h.symm)
            have HOT := Lib.hid (fun q => skout0 w.heap.size w.heap.size M v out (wr.drewN q) (HDE.out.snk.drewN q))
            go_wp2_with (first
              | (go_at_call 20; with_reducible refine (HWD.out _).mono ?_; (rintro r w3 ⟨rfl, rfl⟩))
              | (go_at_call 21; refine HHI.out.mono ?_; (rintro r w3 ⟨rfl, q3, rfl⟩))
              | (go_at_call 23; refine (HOT.out q3).mono ?_; (rintro r w4 ⟨rfl, q4, hq⟩); subst hq))
            go_ret2
            rw [HR.out]
            first | exact ReadPost.of_row (below_drewN HDE.out.low _) (HDE.out.snk.row.drewN _) | exact ReadPost.of_row (below_drewN (below_drewN HDE.out.low _) _) ((HDE.out.snk.row.drewN _).drewN _)
          · have HX0 : Hid (∀ x, lzRow T last cv = some x → ∃ f, 8 * n + 1 ≤ P + f ∧ (if out.length + x.length ≤ M then lzD M zs f P (lzT T last x) x (out ++ x) else ([], 7)) = R) := Lib.hid (fun x hx => by
              obtain ⟨f, hf, h⟩ := HNOW.out
              rw [if_neg hneg, if_neg h256, if_neg h257, hx] at h
              exact ⟨f, hf, h⟩)
            have HE0 : Hid (lzRow T last cv = none → R = ([], 4)) := Lib.hid (fun hx => by
              obtain ⟨f, hf, h⟩ := HNOW.out
              rw [if_neg hneg, if_neg h256, if_neg h257, hx] at h
              exact h.symm)
            have i256 : (cv == 256) = false := beq_eq_false_iff_ne.2 h256
            have i257 : (cv == 257) = false := beq_eq_false_iff_ne.2 h257
            have hPn : P ≤ 8 * n := by omega
            have hc4 : 0 ≤ cv ∧ cv < 4096 := by omega
            clear hcb
            by_cases hlit : cv < 256
            · obtain ⟨x, hx⟩ : ∃ x : List Int, [cv] = x := ⟨_, rfl⟩
              have hLX : x.length = 1 := by rw [← hx]; rfl
              have HFIN := Lib.hid (HX0.out x (by rw [← hx, lzRow, if_pos hlit]))
              have HLT : Hid (LenT (lzT T last x) x) := Lib.hid (HD.out.len.next (.inl (by omega)))
              have hcw : IntKind.u8.wrap cv = cv := IntWalk.u8_in _ (by omega)
              have HDX := Lib.hid (fun q => (HDE.out.drewN q).lower ((Below.refl _ _).alloc (Nat.le_refl _) (.cells #[.int .u8 cv] 5)))
              obtain ⟨bx, hbx⟩ : ∃ bx, wr.heap.size = bx := ⟨_, rfl⟩
              have HXX : Hid (∀ q, RwS ((wr.drewN q).alloc (.cells #[.int .u8 cv] 5)) w.heap.size w.heap.size v tv (.slice (some ⟨bx, 0, none⟩) 1 1) x) := Lib.hid (fun q => by
                have hk := HDE.out.snk.lt
                refine ⟨wr.heap.size, 1, by rw [hLX, hbx], by omega, by omega, fun z hz => by rw [← hx] at hz; simp at hz; omega, by omega, by simp, by omega, fun e => by have := HDE.out.snk.row.lt _ e; omega, fun e => by have := (HDE.out.tab.lt _ e).1; omega, fun i hi => ?_⟩
                obtain rfl : i = 0 := by omega
                rw [← hx]
                show World.cell? _ ⟨(wr.drewN q).heap.size, 0, none⟩ = _
                rw [World.cell?_alloc_mark]
                rfl)
              have HXL := Lib.hid hLX
              clear hLX hx
              go_wp2_with (first
                | (go_at_call 20; with_reducible refine (HWD.out _).mono ?_; (rintro r w3 ⟨rfl, rfl⟩))
                | (go_at_call 21; refine HHI.out.mono ?_; (rintro r w3 ⟨rfl, q3, rfl⟩)))
              have HDW := Lib.hid (HDX.out q3)
              have HXW := Lib.hid (HXX.out q3)
              clear hbx
              go_loopw [14] (fun iv wr => ∃ (i : Nat) (v2 : Value) (out2 : List Int) (bad2 : Int), i ≤ 1 ∧ iv = .int .i64 i ∧ Hid (DeS w wr w.heap.size w.heap.size v2 tv lv vals T last out2 M bad2) ∧ Hid (RwS wr w.heap.size w.heap.size v2 tv (.slice (some ⟨bx, 0, none⟩) 1 1) x) ∧ Hid (PutS out x out2 M i bad2 ∧ out2.length ≤ out.length + i)) (fun iv _ => 1 - (intOf iv).toNat)
              case atStart => exact ⟨0, v, out, 0, Nat.zero_le _, rfl, HDW, HXW, Lib.hid ⟨PutS.start _ _ _, by omega⟩⟩
              case round =>
                obtain ⟨i, v2, out2, bad2, hi, rfl, HD2, HX2, HP2⟩ := hrel
                by_cases hil : i < 1
                · have hby := HX2.out.byt_at
                  have hcl := HX2.out.cell_at
                  have ci := hcl i (by rw [HXL.out]; exact hil)
                  have hyr := hby.getD i
                  have hst := HP2.out.1.step (by rw [HXL.out]; exact hil)
                  obtain ⟨y, hy⟩ : ∃ y, x.getD i 0 = y := ⟨_, rfl⟩
                  rw [hy] at ci hyr hst
                  have HST := Lib.hid hst
                  have hol2 := HP2.out.2
                  have HPU := Lib.hid (skputX w.heap.size w.heap.size M bad2 y v2 out2 wr HD2.out.snk hyr (by omega))
                  have HOL2 : Hid ((skO M out2 bad2 y).length ≤ out.length + (i + 1)) := Lib.hid (by have := skO_len M out2 bad2 y; omega)
                  have hii : (i : Int) < 1 := by omega
                  clear hby hcl hst hy
                  go_wp2_with (go_at_call 24; refine HPU.out.mono ?_; (rintro r w4 ⟨rfl, v4, hs4, hk4⟩); have HD4 := Lib.hid (HD2.out.put hk4 hs4); have HX4 := Lib.hid (HX2.out.put hk4); clear hs4 hk4)
                  go_roundw
                  case rel => exact ⟨i + 1, v4, _, _, by omega, by go_num, HD4, HX4, Lib.hid ⟨HST.out, HOL2.out⟩⟩
                  case measure => simp [intOf]; omega
                · have hil2 : 1 = i := by omega
                  subst hil2
                  have HPX : Hid (PutS out x out2 M x.length bad2) := Lib.hid (by rw [HXL.out]; exact HP2.out.1)
                  have hol2 := HP2.out.2
                  have HO2 : Hid (out2.length ≤ 427 * P) := Lib.hid (by omega)
                  have HX0 : Hid (0 < x.length) := Lib.hid (by rw [HXL.out]; omega)
                  rcases HDE.out.lst with ⟨hl0, hlv⟩ | hlr
                  · subst hlv
                    have HN : Hid (DlS w wr w.heap.size v2 tv (.slice (some ⟨bx, 0, none⟩) 1 1) zs n P T x out2 M bad2 R) := Lib.hid (by
                      have e : T = lzT T last x := by rw [lzT, if_neg (fun h => h.1 hl0)]
                      exact HD2.out.after HX2.out e HPX.out HFIN.out HLT.out hPn HO2.out HX0.out)
                    clear hl0
                    go_wp2_with fail
                    exact ⟨⟨v2, tv, _, NX, P, T, x, out2, bad2, rfl, rfl, rfl, rfl, by omega, HNX, HN⟩, by simpa [intOf] using hnb⟩
                  · obtain ⟨bl, cl, hlv, hlby, _⟩ := hlr.byt
                    subst hlv
                    have hl0 : last ≠ [] := fun e => by
                      obtain ⟨_, _, _, h2, _⟩ := hlr
                      rw [e] at h2
                      exact absurd h2 (Nat.lt_irrefl _)
                    by_cases hroom : NX < 4096
                    · have hri : (NX : Int) < 4096 := by omega
                      have cx0 := HX2.out.cell_at 0 (by rw [HXL.out]; omega)
                      have hy0 := HX2.out.byt_at.getD 0
                      obtain ⟨x0, hx0⟩ : ∃ x0, x.getD 0 0 = x0 := ⟨_, rfl⟩
                      rw [hx0] at cx0 hy0
                      have hlr2 : RwS wr w.heap.size w.heap.size v2 tv (.slice (some ⟨bl, 0, none⟩) last.length cl) last := HD2.out.lst.resolve_left (fun h => hl0 h.1)
                      have hLL4 : 0 < last.length ∧ last.length ≤ 3840 := by
                        have h1 := HD.out.len.lst
                        have h2 := HD.out.len.few
                        have := List.length_pos_iff.2 hl0
                        omega
                      have HCA := Lib.hid (copyA wr bl cl last.length bx x0 last hlr2.byt_at ⟨hLL4.1, by omega⟩ cx0 hy0)
                      have HCB := Lib.hid (copyB wr bl cl last.length bx x0 last hlr2.byt_at ⟨hLL4.1, by omega⟩ cx0 hy0)
                      have h0x : (0 : Int) < 1 := by omega
                      have HXE := Lib.hid hx0
                      have HL0 := Lib.hid hl0
                      have HTE : Hid (T ++ [last ++ [x0]] = lzT T last x) := Lib.hid (by rw [lzT, if_pos ⟨hl0, by have := HNX.out; omega⟩, hx0])
                      obtain ⟨NX1, hNX1⟩ : ∃ NX1, NX + 1 = NX1 := ⟨_, rfl⟩
                      have eN : (NX : Int) + 1 = NX1 := by omega
                      have wN : IntKind.i64.wrap (NX1 : Int) = NX1 := IntWalk.i64_in _ (by omega)
                      have HNX1 : Hid (NX1 = 258 + (T ++ [last ++ [x0]]).length) := Lib.hid (by rw [List.length_append, List.length_singleton]; have := HNX.out; omega)
                      have HTF : Hid (T.length ≤ 3838) := Lib.hid HD.out.len.few
                      clear hlr hlby hlr2 hl0 hy0 hLL4 hx0 hNX1
                      have lbx : bx < wr.heap.size := cell_lt cx0
                      go_upto_region 28 with fail
                      go_region_held3 (fun w' => w'.cell? ⟨bx, 0, none⟩ = some (.int .u8 x0)) (first | go_keep | assumption)
                       (first
                        | (obtain ⟨b6, c6, w6, hrun, hm6, hb6, cx6, lb6⟩ := HCPa.out; refine step_append_run8 rfl (.tmp 109) (.tmp 113) 23 rfl (.slice (some ⟨b5, 0, none⟩) last.length c5) (.slice (some ⟨w5.heap.size, 0, none⟩) 1 1) rfl rfl hrun ?_; have HTB := Lib.hid (tabAdd HD2.out HX2.out hm6 (Nat.succ_pos _) hb6 HTF.out); clear hrun hm6 hb6 HCPa)
                        | (obtain ⟨b6, c6, w6, hrun, hm6, hb6, cx6, lb6⟩ := HCPb.out; refine step_append_run8 rfl (.tmp 109) (.tmp 113) 23 rfl (.slice (some ⟨b5, 0, none⟩) last.length c5) (.slice (some ⟨wr.heap.size, 0, none⟩) 1 1) rfl rfl hrun ?_; have HTB := Lib.hid (tabAdd HD2.out HX2.out hm6 (Nat.succ_pos _) hb6 HTF.out); clear hrun hm6 hb6 HCPb)
                        | (obtain ⟨A7, c7, w7, hrun7, hd7, hx7⟩ := HTB.out; refine step_append_run8 rfl (.tmp 107) (.tmp 115) 58 rfl tv (.slice (some ⟨w6.heap.size, 0, none⟩) 1 1) rfl rfl hrun7 ?_; have HD7 := Lib.hid hd7; have HX7 := Lib.hid hx7; have cx7 := hx7.cell_at 0 (by rw [HXL.out]; omega); rw [HXE.out] at cx7; clear hrun7 hd7 hx7 HTB)
                        | (go_simp; go_at_call 14; with_reducible refine HCA.out.mono ?_; (rintro r w5 ⟨b5, c5, rfl, hcp⟩); have cx5 := hcp.cx; have lb5 := hcp.lb; have HCPa := Lib.hid hcp.ap; clear hcp)
                        | (go_simp; go_at_call 14; with_reducible refine HCB.out.mono ?_; (rintro r w5 ⟨b5, c5, rfl, hcp⟩); have cx5 := hcp.cx; have lb5 := hcp.lb; have HCPb := Lib.hid hcp.ap; clear hcp))
                      all_goals
                        go_wp2_with fail
                        exact ⟨⟨v2, _, _, NX1, P, _, x, out2, bad2, rfl, rfl, rfl, rfl, by omega, HNX1, Lib.hid (HD7.out.after HX7.out HTE.out HPX.out HFIN.out HLT.out hPn HO2.out HX0.out)⟩, by simpa [intOf] using hnb⟩
                    · first
                        | (exfalso; omega)
                        | (have hri : ¬ (NX : Int) < 4096 := by omega
                           have hrd : decide ((NX : Int) < 4096) = false := decide_eq_false hri
                           have hrd2 : decide (NX < 4096) = false := decide_eq_false hroom
                           have HN : Hid (DlS w wr w.heap.size v2 tv (.slice (some ⟨bx, 0, none⟩) 1 1) zs n P T x out2 M bad2 R) := Lib.hid (by
                             have e : T = lzT T last x := by rw [lzT, if_neg (fun h => by have := HNX.out; omega)]
                             exact HD2.out.after HX2.out e HPX.out HFIN.out HLT.out hPn HO2.out HX0.out)
                           clear hl0 hlby hlr
                           go_wp2_with fail
                           exact ⟨⟨v2, tv, _, NX, P, T, x, out2, bad2, rfl, rfl, rfl, rfl, by omega, HNX, HN⟩, by simpa [intOf] using hnb⟩)
            · by_cases herr : last = [] ∨ (NX : Int) < cv ∨ (cv = NX ∧ 4095 < NX)
              · have HR : Hid (R = ([], 4)) := Lib.hid (HE0.out (by
                  have := HNX.out
                  rw [lzRow, if_neg hlit, if_pos (by rcases herr with h | h | h; exact .inl h; exact .inr (.inl (by omega)); exact .inr (.inr (by omega)))]))
                have HF := Lib.hid (fun q => skfailX w.heap.size w.heap.size M 4 v out (wr.drewN q) (HDE.out.snk.drewN q))
                have hP2 : P ≤ 8 * n + 12 := by omega
                have hway : (lv = .slice none 0 0) ∨ (∃ b2 L2 C2, lv = .slice (some ⟨b2, 0, none⟩) L2 C2 ∧ (NX : Int) < cv) := by
                  rcases HDE.out.lst with ⟨_, h2⟩ | ⟨b2, C2, h2, h3, _⟩
                  · exact .inl h2
                  · refine .inr ⟨b2, _, C2, h2, ?_⟩
                    rcases herr with h | h | h
                    · rw [h] at h3; exact absurd h3 (Nat.lt_irrefl _)
                    · exact h
                    · omega
                clear herr
                rcases hway with rfl | ⟨b2, L2, C2, rfl, g1⟩
                all_goals
                  go_wp2_with (first
                    | (go_at_call 20; with_reducible refine (HWD.out _).mono ?_; (rintro r w3 ⟨rfl, rfl⟩))
                    | (go_at_call 21; refine HHI.out.mono ?_; (rintro r w3 ⟨rfl, q3, rfl⟩))
                    | (go_at_call 22; refine (HF.out q3).mono ?_; (rintro r w4 ⟨rfl, hs4, hk4⟩); have HN4 := Lib.hid (HD.out.bad_ (p' := P) hs4 ⟨hk4.os, hk4.tape, hk4.output, hk4.size, hk4.block, hk4.own⟩ (by decide) HR.out (by omega) hP2); clear hs4 hk4))
                  go_roundw
                  case rel => exact ⟨_, _, _, NX, P, T, last, out, 4, rfl, rfl, rfl, rfl, hP2, HNX, HN4⟩
                  case measure => simpa [intOf] using hnb
              · have hne : last ≠ [] := fun e => herr (.inl e)
                have hgt : ¬ (NX : Int) < cv := fun e => herr (.inr (.inl e))
                have hlr := HDE.out.lst.resolve_left (fun h => hne h.1)
                obtain ⟨bl, cl, hlv, hlby, _⟩ := hlr.byt
                subst hlv
                have HLR := Lib.hid hlr
                have HNE := Lib.hid hne
                have hLL4 : 0 < last.length ∧ last.length ≤ 3840 := by
                  have h1 := HD.out.len.lst
                  have h2 := HD.out.len.few
                  have := List.length_pos_iff.2 hne
                  omega
                clear hlr hlby herr
                by_cases heq : cv = NX
                · subst heq
                  obtain ⟨x, hx⟩ : ∃ x : List Int, last ++ [last.getD 0 0] = x := ⟨_, rfl⟩
                  have hxl : x.length = last.length + 1 := by rw [← hx, List.length_append]; rfl
                  have HFIN := Lib.hid (HX0.out x (by
                    have := HNX.out
                    rw [lzRow, if_neg hlit, if_neg (by rintro (h | h | h); exact hne h; all_goals omega), if_pos (by omega), hx]))
                  have hTr : T.length < 3838 := by have := HNX.out; omega
                  have HLT : Hid (LenT (lzT T last x) x) := Lib.hid (HD.out.len.next (.inr ⟨hne, hTr, by have := HD.out.len.lst; omega⟩))
                  have gn4 : ¬ (NX : Int) > 4095 := by omega
                  have h0l : (0 : Int) < last.length := by omega
                  obtain ⟨y0, hy0⟩ : ∃ y0, last.getD 0 0 = y0 := ⟨_, rfl⟩
                  have HYE := Lib.hid hy0
                  have HCY := Lib.hid (fun W (h : RwS W w.heap.size w.heap.size v tv (.slice (some ⟨bl, 0, none⟩) last.length cl) last) => h.cell_at 0 hLL4.1)
                  rw [hy0] at HCY hx
                  have hyr := HLR.out.byt_at.getD 0
                  rw [hy0] at hyr
                  have HXX := Lib.hid hx
                  have HXL0 := Lib.hid hxl
                  have HYR := Lib.hid hyr
                  clear hx hxl hyr hne hy0
                  go_upto_region 22 with (first
                    | (go_at_call 20; with_reducible refine (HWD.out _).mono ?_; (rintro r w3 ⟨rfl, rfl⟩))
                    | (go_at_call 21; refine HHI.out.mono ?_; (rintro r w3 ⟨rfl, q3, hq⟩); have HD3 : Hid (DeS w w3 w.heap.size w.heap.size v tv (.slice (some ⟨bl, 0, none⟩) last.length cl) vals T last out M 0) := Lib.hid (by rw [hq]; exact HDE.out.drewN q3); clear hq))
                  have HL3 := Lib.hid (HD3.out.lst.resolve_left (fun h => HNE.out h.1))
                  have cl0 := HCY.out _ HL3.out
                  have lbl : bl < w3.heap.size := cell_lt cl0
                  have HCA := Lib.hid (copyA w3 bl cl last.length bl y0 last HL3.out.byt_at ⟨hLL4.1, by omega⟩ cl0 HYR.out)
                  have HCB := Lib.hid (copyB w3 bl cl last.length bl y0 last HL3.out.byt_at ⟨hLL4.1, by omega⟩ cl0 HYR.out)
                  go_region_held3 (fun w' => w'.cell? ⟨bl, 0, none⟩ = some (.int .u8 y0)) (first | go_keep | assumption)
                   (first
                    | (obtain ⟨b6, c6, w6, hrun, hm6, hb6, cx6, lb6⟩ := HCPa.out; refine step_append_run8 rfl (.tmp 83) (.tmp 87) 23 rfl (.slice (some ⟨b5, 0, none⟩) last.length c5) (.slice (some ⟨w5.heap.size, 0, none⟩) 1 1) rfl rfl hrun ?_; have HM6 := Lib.hid hm6; have HB6 := Lib.hid hb6; clear hrun hm6 hb6 HCPa)
                    | (obtain ⟨b6, c6, w6, hrun, hm6, hb6, cx6, lb6⟩ := HCPb.out; refine step_append_run8 rfl (.tmp 83) (.tmp 87) 23 rfl (.slice (some ⟨b5, 0, none⟩) last.length c5) (.slice (some ⟨w3.heap.size, 0, none⟩) 1 1) rfl rfl hrun ?_; have HM6 := Lib.hid hm6; have HB6 := Lib.hid hb6; clear hrun hm6 hb6 HCPb)
                    | (go_simp; go_at_call 14; with_reducible refine HCA.out.mono ?_; (rintro r w5 ⟨b5, c5, rfl, hcp⟩); have cx5 := hcp.cx; have lb5 := hcp.lb; have HCPa := Lib.hid hcp.ap; clear hcp)
                    | (go_simp; go_at_call 14; with_reducible refine HCB.out.mono ?_; (rintro r w5 ⟨b5, c5, rfl, hcp⟩); have cx5 := hcp.cx; have lb5 := hcp.lb; have HCPb := Lib.hid hcp.ap; clear hcp))
                  all_goals
                    have HXW : Hid (RwS w6 w.heap.size w.heap.size v tv (.slice (some ⟨b6, 0, none⟩) (last.length + 1) c6) x) := Lib.hid (by
                      rw [← HXX.out]
                      exact RwS.new (w := w3) (HM6.out.weak8 HD3.out.snk.base_le) (Nat.succ_pos _) HM6.out.owned HD3.out.snk.lt HD3.out.snk.row.lt (fun b hb => (HD3.out.tab.lt b hb).1))
                    have HDW := Lib.hid (HD3.out.lower HB6.out)
                    have HXL := HXL0
                    clear HM6 HB6 cl0 lbl cx6 lb6 cx5 lb5
                    go_wp2_with fail
                    go_loopw [14] (fun iv wr => ∃ (i : Nat) (v2 : Value) (out2 : List Int) (bad2 : Int), i ≤ (last.length + 1) ∧ iv = .int .i64 i ∧ Hid (DeS w wr w.heap.size w.heap.size v2 tv (Value.slice (some ⟨bl, 0, none⟩) last.length cl) vals T last out2 M bad2) ∧ Hid (RwS wr w.heap.size w.heap.size v2 tv (.slice (some ⟨b6, 0, none⟩) (last.length + 1) c6) x) ∧ Hid (PutS out x out2 M i bad2 ∧ out2.length ≤ out.length + i)) (fun iv _ => (last.length + 1) - (intOf iv).toNat)
                    case atStart => exact ⟨0, v, out, 0, Nat.zero_le _, rfl, HDW, HXW, Lib.hid ⟨PutS.start _ _ _, by omega⟩⟩
                    case round =>
                      obtain ⟨i, v2, out2, bad2, hi, rfl, HD2, HX2, HP2⟩ := hrel
                      by_cases hil : i < (last.length + 1)
                      · have hby := HX2.out.byt_at
                        have hcl := HX2.out.cell_at
                        have ci := hcl i (by rw [HXL.out]; exact hil)
                        have hyr := hby.getD i
                        have hst := HP2.out.1.step (by rw [HXL.out]; exact hil)
                        obtain ⟨y, hy⟩ : ∃ y, x.getD i 0 = y := ⟨_, rfl⟩
                        rw [hy] at ci hyr hst
                        have HST := Lib.hid hst
                        have hol2 := HP2.out.2
                        have HPU := Lib.hid (skputX w.heap.size w.heap.size M bad2 y v2 out2 wr HD2.out.snk hyr (by omega))
                        have HOL2 : Hid ((skO M out2 bad2 y).length ≤ out.length + (i + 1)) := Lib.hid (by have := skO_len M out2 bad2 y; omega)
                        have hii : (i : Int) < (last.length + 1) := by omega
                        clear hby hcl hst hy
                        go_wp2_with (go_at_call 24; refine HPU.out.mono ?_; (rintro r w4 ⟨rfl, v4, hs4, hk4⟩); have HD4 := Lib.hid (HD2.out.put hk4 hs4); have HX4 := Lib.hid (HX2.out.put hk4); clear hs4 hk4)
                        go_roundw
                        case rel => exact ⟨i + 1, v4, _, _, by omega, by go_num, HD4, HX4, Lib.hid ⟨HST.out, HOL2.out⟩⟩
                        case measure => simp [intOf]; omega
                      · have hil2 : (last.length + 1) = i := by omega
                        subst hil2
                        have HPX : Hid (PutS out x out2 M x.length bad2) := Lib.hid (by rw [HXL.out]; exact HP2.out.1)
                        have hol2 := HP2.out.2
                        have HO2 : Hid (out2.length ≤ 427 * P) := Lib.hid (by omega)
                        have HX0 : Hid (0 < x.length) := Lib.hid (by rw [HXL.out]; omega)
                        have hlr := HLR.out
                        have hlby := hlr.byt_at
                        have hl0 : last ≠ [] := fun e => by
                          obtain ⟨_, _, _, h2, _⟩ := hlr
                          rw [e] at h2
                          exact absurd h2 (Nat.lt_irrefl _)
                        by_cases hroom : NX < 4096
                        · have hri : (NX : Int) < 4096 := by omega
                          have cx0 := HX2.out.cell_at 0 (by rw [HXL.out]; omega)
                          have hy0 := HX2.out.byt_at.getD 0
                          obtain ⟨x0, hx0⟩ : ∃ x0, x.getD 0 0 = x0 := ⟨_, rfl⟩
                          rw [hx0] at cx0 hy0
                          have hlr2 : RwS wr w.heap.size w.heap.size v2 tv (.slice (some ⟨bl, 0, none⟩) last.length cl) last := HD2.out.lst.resolve_left (fun h => hl0 h.1)
                          have hLL4 : 0 < last.length ∧ last.length ≤ 3840 := by
                            have h1 := HD.out.len.lst
                            have h2 := HD.out.len.few
                            have := List.length_pos_iff.2 hl0
                            omega
                          have HCA := Lib.hid (copyA wr bl cl last.length b6 x0 last hlr2.byt_at ⟨hLL4.1, by omega⟩ cx0 hy0)
                          have HCB := Lib.hid (copyB wr bl cl last.length b6 x0 last hlr2.byt_at ⟨hLL4.1, by omega⟩ cx0 hy0)
                          have h0x : (0 : Int) < (last.length + 1) := by omega
                          have HXE := Lib.hid hx0
                          have HL0 := Lib.hid hl0
                          have HTE : Hid (T ++ [last ++ [x0]] = lzT T last x) := Lib.hid (by rw [lzT, if_pos ⟨hl0, by have := HNX.out; omega⟩, hx0])
                          obtain ⟨NX1, hNX1⟩ : ∃ NX1, NX + 1 = NX1 := ⟨_, rfl⟩
                          have eN : (NX : Int) + 1 = NX1 := by omega
                          have wN : IntKind.i64.wrap (NX1 : Int) = NX1 := IntWalk.i64_in _ (by omega)
                          have HNX1 : Hid (NX1 = 258 + (T ++ [last ++ [x0]]).length) := Lib.hid (by rw [List.length_append, List.length_singleton]; have := HNX.out; omega)
                          have HTF : Hid (T.length ≤ 3838) := Lib.hid HD.out.len.few
                          clear hlr hlby hlr2 hl0 hy0 hLL4 hx0 hNX1
                          have lbx : b6 < wr.heap.size := cell_lt cx0
                          go_upto_region 28 with fail
                          go_region_held3 (fun w' => w'.cell? ⟨b6, 0, none⟩ = some (.int .u8 x0)) (first | go_keep | assumption)
                           (first
                            | (obtain ⟨b6, c6, w6, hrun, hm6, hb6, cx6, lb6⟩ := HCPa.out; refine step_append_run8 rfl (.tmp 109) (.tmp 113) 23 rfl (.slice (some ⟨b5, 0, none⟩) last.length c5) (.slice (some ⟨w5.heap.size, 0, none⟩) 1 1) rfl rfl hrun ?_; have HTB := Lib.hid (tabAdd HD2.out HX2.out hm6 (Nat.succ_pos _) hb6 HTF.out); clear hrun hm6 hb6 HCPa)
                            | (obtain ⟨b6, c6, w6, hrun, hm6, hb6, cx6, lb6⟩ := HCPb.out; refine step_append_run8 rfl (.tmp 109) (.tmp 113) 23 rfl (.slice (some ⟨b5, 0, none⟩) last.length c5) (.slice (some ⟨wr.heap.size, 0, none⟩) 1 1) rfl rfl hrun ?_; have HTB := Lib.hid (tabAdd HD2.out HX2.out hm6 (Nat.succ_pos _) hb6 HTF.out); clear hrun hm6 hb6 HCPb)
                            | (obtain ⟨A7, c7, w7, hrun7, hd7, hx7⟩ := HTB.out; refine step_append_run8 rfl (.tmp 107) (.tmp 115) 58 rfl tv (.slice (some ⟨w6.heap.size, 0, none⟩) 1 1) rfl rfl hrun7 ?_; have HD7 := Lib.hid hd7; have HX7 := Lib.hid hx7; have cx7 := hx7.cell_at 0 (by rw [HXL.out]; omega); rw [HXE.out] at cx7; clear hrun7 hd7 hx7 HTB)
                            | (go_simp; go_at_call 14; with_reducible refine HCA.out.mono ?_; (rintro r w5 ⟨b5, c5, rfl, hcp⟩); have cx5 := hcp.cx; have lb5 := hcp.lb; have HCPa := Lib.hid hcp.ap; clear hcp)
                            | (go_simp; go_at_call 14; with_reducible refine HCB.out.mono ?_; (rintro r w5 ⟨b5, c5, rfl, hcp⟩); have cx5 := hcp.cx; have lb5 := hcp.lb; have HCPb := Lib.hid hcp.ap; clear hcp))
                          all_goals
                            go_wp2_with fail
                            exact ⟨⟨v2, _, _, NX1, P, _, x, out2, bad2, rfl, rfl, rfl, rfl, by omega, HNX1, Lib.hid (HD7.out.after HX7.out HTE.out HPX.out HFIN.out HLT.out hPn HO2.out HX0.out)⟩, by simpa [intOf] using hnb⟩
                        · first
                            | (exfalso; omega)
                            | (have hri : ¬ (NX : Int) < 4096 := by omega
                               have hrd : decide ((NX : Int) < 4096) = false := decide_eq_false hri
                               have hrd2 : decide (NX < 4096) = false := decide_eq_false hroom
                               have HN : Hid (DlS w wr w.heap.size v2 tv (.slice (some ⟨b6, 0, none⟩) (last.length + 1) c6) zs n P T x out2 M bad2 R) := Lib.hid (by
                                 have e : T = lzT T last x := by rw [lzT, if_neg (fun h => by have := HNX.out; omega)]
                                 exact HD2.out.after HX2.out e HPX.out HFIN.out HLT.out hPn HO2.out HX0.out)
                               clear hl0 hlby hlr
                               go_wp2_with fail
                               exact ⟨⟨v2, tv, _, NX, P, T, x, out2, bad2, rfl, rfl, rfl, rfl, by omega, HNX, HN⟩, by simpa [intOf] using hnb⟩)
                · obtain ⟨C, rfl⟩ : ∃ C : Nat, cv = C := ⟨cv.toNat, by omega⟩
                  obtain ⟨k, hk⟩ : ∃ k, C - 258 = k := ⟨_, rfl⟩
                  have eK : (C : Int) - 258 = k := by omega
                  have wK : IntKind.i64.wrap (k : Int) = k := IntWalk.i64_in _ (by omega)
                  have hvl := HDE.out.len
                  have hkv : k < vals.length := by have := HNX.out; omega
                  have hrow := HDE.out.rows k hkv
                  obtain ⟨x, hx⟩ : ∃ x, T.getD k [] = x := ⟨_, rfl⟩
                  rw [hx] at hrow
                  obtain ⟨bx, cx, hval, hxby, _⟩ := hrow.byt
                  have hxl : 0 < x.length := by
                    obtain ⟨_, _, _, h2, _⟩ := hrow
                    exact h2
                  have HFIN := Lib.hid (HX0.out x (by
                    have := HNX.out
                    rw [lzRow, if_neg hlit, if_neg (by rintro (h | h | h); exact hne h; all_goals omega), if_neg (by omega), show ((C : Int) - 258).toNat = k by omega, hx]))
                  have hlx := HD.out.len.rows k (by omega)
                  rw [hx] at hlx
                  have HLT : Hid (LenT (lzT T last x) x) := Lib.hid (HD.out.len.next (.inl hlx))
                  have hne2 : ((C : Int) == (NX : Int)) = false := beq_eq_false_iff_ne.2 heq
                  obtain ⟨LX, hLX⟩ : ∃ LX, x.length = LX := ⟨_, rfl⟩
                  rw [hLX] at hval hxl hlx
                  have hLX4 : LX ≤ 3840 := by omega
                  obtain ⟨g, cT, htv, hgl, _, hcells⟩ := HDE.out.tab.cells8 (by omega)
                  have ckT := hcells k hkv
                  rw [hval] at ckT
                  rw [hval] at hrow
                  have HRW := Lib.hid hrow
                  have HXL := Lib.hid hLX
                  have hki : (k : Int) < vals.length := by omega
                  subst htv
                  have HHL := Lib.hid hne
                  have dd1 : decide (NX < C) = false := decide_eq_false (by omega)
                  have dd2 : decide (C < 256) = false := decide_eq_false (by omega)
                  clear hx hval hxby hcells hk hlx hLX hrow hvl hkv heq hne
                  go_wp2_with (first
                    | (go_at_call 20; with_reducible refine (HWD.out _).mono ?_; (rintro r w3 ⟨rfl, rfl⟩))
                    | (go_at_call 21; refine HHI.out.mono ?_; (rintro r w3 ⟨rfl, q3, hq⟩); have HDW : Hid (DeS w w3 w.heap.size w.heap.size v (.slice (some ⟨g, 0, none⟩) vals.length cT) (.slice (some ⟨bl, 0, none⟩) last.length cl) vals T last out M 0) := Lib.hid (by rw [hq]; exact HDE.out.drewN q3); have HXW : Hid (RwS w3 w.heap.size w.heap.size v (.slice (some ⟨g, 0, none⟩) vals.length cT) (.slice (some ⟨bx, 0, none⟩) LX cx) x) := Lib.hid (by rw [hq]; exact HRW.out.low (below_drewN (Below.refl _ _) q3)); have ck3 : w3.cell? ⟨g, k, none⟩ = some (.slice (some ⟨bx, 0, none⟩) LX cx) := (by rw [hq]; exact ckT); clear hq))
                  go_loopw [14] (fun iv wr => ∃ (i : Nat) (v2 : Value) (out2 : List Int) (bad2 : Int), i ≤ LX ∧ iv = .int .i64 i ∧ Hid (DeS w wr w.heap.size w.heap.size v2 (Value.slice (some ⟨g, 0, none⟩) vals.length cT) (Value.slice (some ⟨bl, 0, none⟩) last.length cl) vals T last out2 M bad2) ∧ Hid (RwS wr w.heap.size w.heap.size v2 (Value.slice (some ⟨g, 0, none⟩) vals.length cT) (.slice (some ⟨bx, 0, none⟩) LX cx) x) ∧ Hid (PutS out x out2 M i bad2 ∧ out2.length ≤ out.length + i)) (fun iv _ => LX - (intOf iv).toNat)
                  case atStart => exact ⟨0, v, out, 0, Nat.zero_le _, rfl, HDW, HXW, Lib.hid ⟨PutS.start _ _ _, by omega⟩⟩
                  case round =>
                    obtain ⟨i, v2, out2, bad2, hi, rfl, HD2, HX2, HP2⟩ := hrel
                    by_cases hil : i < LX
                    · have hby := HX2.out.byt_at
                      have hcl := HX2.out.cell_at
                      have ci := hcl i (by rw [HXL.out]; exact hil)
                      have hyr := hby.getD i
                      have hst := HP2.out.1.step (by rw [HXL.out]; exact hil)
                      obtain ⟨y, hy⟩ : ∃ y, x.getD i 0 = y := ⟨_, rfl⟩
                      rw [hy] at ci hyr hst
                      have HST := Lib.hid hst
                      have hol2 := HP2.out.2
                      have HPU := Lib.hid (skputX w.heap.size w.heap.size M bad2 y v2 out2 wr HD2.out.snk hyr (by omega))
                      have HOL2 : Hid ((skO M out2 bad2 y).length ≤ out.length + (i + 1)) := Lib.hid (by have := skO_len M out2 bad2 y; omega)
                      have hii : (i : Int) < LX := by omega
                      clear hby hcl hst hy
                      go_wp2_with (go_at_call 24; refine HPU.out.mono ?_; (rintro r w4 ⟨rfl, v4, hs4, hk4⟩); have HD4 := Lib.hid (HD2.out.put hk4 hs4); have HX4 := Lib.hid (HX2.out.put hk4); clear hs4 hk4)
                      go_roundw
                      case rel => exact ⟨i + 1, v4, _, _, by omega, by go_num, HD4, HX4, Lib.hid ⟨HST.out, HOL2.out⟩⟩
                      case measure => simp [intOf]; omega
                    · have hil2 : LX = i := by omega
                      subst hil2
                      have HPX : Hid (PutS out x out2 M x.length bad2) := Lib.hid (by rw [HXL.out]; exact HP2.out.1)
                      have hol2 := HP2.out.2
                      have HO2 : Hid (out2.length ≤ 427 * P) := Lib.hid (by omega)
                      have HX0 : Hid (0 < x.length) := Lib.hid (by rw [HXL.out]; omega)
                      have hlr := HLR.out
                      have hlby := hlr.byt_at
                      have hl0 : last ≠ [] := fun e => by
                        obtain ⟨_, _, _, h2, _⟩ := hlr
                        rw [e] at h2
                        exact absurd h2 (Nat.lt_irrefl _)
                      by_cases hroom : NX < 4096
                      · have hri : (NX : Int) < 4096 := by omega
                        have cx0 := HX2.out.cell_at 0 (by rw [HXL.out]; omega)
                        have hy0 := HX2.out.byt_at.getD 0
                        obtain ⟨x0, hx0⟩ : ∃ x0, x.getD 0 0 = x0 := ⟨_, rfl⟩
                        rw [hx0] at cx0 hy0
                        have hlr2 : RwS wr w.heap.size w.heap.size v2 (Value.slice (some ⟨g, 0, none⟩) vals.length cT) (.slice (some ⟨bl, 0, none⟩) last.length cl) last := HD2.out.lst.resolve_left (fun h => hl0 h.1)
                        have hLL4 : 0 < last.length ∧ last.length ≤ 3840 := by
                          have h1 := HD.out.len.lst
                          have h2 := HD.out.len.few
                          have := List.length_pos_iff.2 hl0
                          omega
                        have HCA := Lib.hid (copyA wr bl cl last.length bx x0 last hlr2.byt_at ⟨hLL4.1, by omega⟩ cx0 hy0)
                        have HCB := Lib.hid (copyB wr bl cl last.length bx x0 last hlr2.byt_at ⟨hLL4.1, by omega⟩ cx0 hy0)
                        have h0x : (0 : Int) < LX := by omega
                        have HXE := Lib.hid hx0
                        have HL0 := Lib.hid hl0
                        have HTE : Hid (T ++ [last ++ [x0]] = lzT T last x) := Lib.hid (by rw [lzT, if_pos ⟨hl0, by have := HNX.out; omega⟩, hx0])
                        obtain ⟨NX1, hNX1⟩ : ∃ NX1, NX + 1 = NX1 := ⟨_, rfl⟩
                        have eN : (NX : Int) + 1 = NX1 := by omega
                        have wN : IntKind.i64.wrap (NX1 : Int) = NX1 := IntWalk.i64_in _ (by omega)
                        have HNX1 : Hid (NX1 = 258 + (T ++ [last ++ [x0]]).length) := Lib.hid (by rw [List.length_append, List.length_singleton]; have := HNX.out; omega)
                        have HTF : Hid (T.length ≤ 3838) := Lib.hid HD.out.len.few
                        clear hlr hlby hlr2 hl0 hy0 hLL4 hx0 hNX1
                        have lbx : bx < wr.heap.size := cell_lt cx0
                        go_upto_region 28 with fail
                        go_region_held3 (fun w' => w'.cell? ⟨bx, 0, none⟩ = some (.int .u8 x0)) (first | go_keep | assumption)
                         (first
                          | (obtain ⟨b6, c6, w6, hrun, hm6, hb6, cx6, lb6⟩ := HCPa.out; refine step_append_run8 rfl (.tmp 109) (.tmp 113) 23 rfl (.slice (some ⟨b5, 0, none⟩) last.length c5) (.slice (some ⟨w5.heap.size, 0, none⟩) 1 1) rfl rfl hrun ?_; have HTB := Lib.hid (tabAdd HD2.out HX2.out hm6 (Nat.succ_pos _) hb6 HTF.out); clear hrun hm6 hb6 HCPa)
                          | (obtain ⟨b6, c6, w6, hrun, hm6, hb6, cx6, lb6⟩ := HCPb.out; refine step_append_run8 rfl (.tmp 109) (.tmp 113) 23 rfl (.slice (some ⟨b5, 0, none⟩) last.length c5) (.slice (some ⟨wr.heap.size, 0, none⟩) 1 1) rfl rfl hrun ?_; have HTB := Lib.hid (tabAdd HD2.out HX2.out hm6 (Nat.succ_pos _) hb6 HTF.out); clear hrun hm6 hb6 HCPb)
                          | (obtain ⟨A7, c7, w7, hrun7, hd7, hx7⟩ := HTB.out; refine step_append_run8 rfl (.tmp 107) (.tmp 115) 58 rfl (Value.slice (some ⟨g, 0, none⟩) vals.length cT) (.slice (some ⟨w6.heap.size, 0, none⟩) 1 1) rfl rfl hrun7 ?_; have HD7 := Lib.hid hd7; have HX7 := Lib.hid hx7; have cx7 := hx7.cell_at 0 (by rw [HXL.out]; omega); rw [HXE.out] at cx7; clear hrun7 hd7 hx7 HTB)
                          | (go_simp; go_at_call 14; with_reducible refine HCA.out.mono ?_; (rintro r w5 ⟨b5, c5, rfl, hcp⟩); have cx5 := hcp.cx; have lb5 := hcp.lb; have HCPa := Lib.hid hcp.ap; clear hcp)
                          | (go_simp; go_at_call 14; with_reducible refine HCB.out.mono ?_; (rintro r w5 ⟨b5, c5, rfl, hcp⟩); have cx5 := hcp.cx; have lb5 := hcp.lb; have HCPb := Lib.hid hcp.ap; clear hcp))
                        all_goals
                          go_wp2_with fail
                          exact ⟨⟨v2, _, _, NX1, P, _, x, out2, bad2, rfl, rfl, rfl, rfl, by omega, HNX1, Lib.hid (HD7.out.after HX7.out HTE.out HPX.out HFIN.out HLT.out hPn HO2.out HX0.out)⟩, by simpa [intOf] using hnb⟩
                      · first
                          | (exfalso; omega)
                          | (have hri : ¬ (NX : Int) < 4096 := by omega
                             have hrd : decide ((NX : Int) < 4096) = false := decide_eq_false hri
                             have hrd2 : decide (NX < 4096) = false := decide_eq_false hroom
                             have HN : Hid (DlS w wr w.heap.size v2 (Value.slice (some ⟨g, 0, none⟩) vals.length cT) (.slice (some ⟨bx, 0, none⟩) LX cx) zs n P T x out2 M bad2 R) := Lib.hid (by
                               have e : T = lzT T last x := by rw [lzT, if_neg (fun h => by have := HNX.out; omega)]
                               exact HD2.out.after HX2.out e HPX.out HFIN.out HLT.out hPn HO2.out HX0.out)
                             clear hl0 hlby hlr
                             go_wp2_with fail
                             exact ⟨⟨v2, (Value.slice (some ⟨g, 0, none⟩) vals.length cT), _, NX, P, T, x, out2, bad2, rfl, rfl, rfl, rfl, by omega, HNX, HN⟩, by simpa [intOf] using hnb⟩)
    · have hbz : (bad == 0) = false := beq_eq_false_iff_ne.2 hbad
      have hR2 : R = ([], bad) := by
        obtain ⟨f, _, h⟩ := HD.out.now
        rcases h with ⟨h, _⟩ | ⟨_, h⟩
        · exact absurd h hbad
        · exact h
      subst hR2
      have HOT := Lib.hid (skout1 w.heap.size w.heap.size M bad v out wr HDE.out.snk hbad)
      clear hbad
      go_wp2_with (go_at_call 23; refine HOT.out.mono ?_; (rintro r w3 ⟨rfl, q, hq⟩); subst hq)
      go_ret2
      exact ReadPost.of_bad bad (below_drewN HDE.out.low _)
end Go.Proofs.Ytpnnejedfccckaa
