/- Chapter 8, the project's own writer: begin, longest. -/
import Derived.Test.YtpnnejedfccckaaEw8
namespace Go.Proofs.Ytpnnejedfccckaa
open Go.RowKit
set_option linter.unusedVariables false
set_option maxRecDepth 100000

set_option maxHeartbeats 1000000 in
theorem beginW (w0 : World) (g B n told : Nat) (bs : List Nat) (L : List Int) (F : Nat → Int → Option Nat) (w : World) (h : WS w0 w g B bs L n F told) (ht : told ≤ 3839) (hL : L.length ≤ 600000000) :
    Calls Try.prog 16 #[.pointer (some ⟨g, 0, none⟩)] w fun r w' => r = .returned (.tuple #[]) ∧ ∃ bs', WS w0 w' g B bs' (L ++ hiB 256 (wdZ (frS told))) 0 (fun _ _ => none) 0 := by
  have HC := Lib.hid (codeW w0 g B n told 256 bs L F w h ht (by omega) hL)
  rw [show ((256 : Nat) : Int) = 256 from rfl] at HC
  obtain ⟨L2, hL2⟩ : ∃ L2, L ++ hiB 256 (wdZ (frS told)) = L2 := ⟨_, rfl⟩
  rw [hL2] at HC ⊢
  clear h hL2
  go_enter Try.func16, Try.ntmps16
  go_wp2_with (first
    | (go_at_call 18; refine HC.out.mono ?_; (rintro r w1 ⟨rfl, bs1, hw1⟩); have m0 := hw1.c0; have HW1 := Lib.hid hw1; clear hw1)
    | (obtain ⟨w2, hrun, hm2, ho2⟩ := HW1.out.tab.clear 0; refine wpList_clear_run rfl (.tmp 7) 45 rfl (.map (some B)) rfl hrun ?_; have HW2 := Lib.hid (HW1.out.tabbed hm2 ho2); have m1 := HW2.out.c1; have mf := HW2.out.row.fr 261; clear hm2 ho2 hrun m0))
  (try simp only [Exit.inBlock, Exit.then])
  refine ⟨rfl, _, results_none rfl _ _ _, ?_⟩
  exact ⟨rfl, bs1, HW2.out.told_ 0 0 rfl⟩
theorem RowOf.det {TE : List (List Int)} {F : Nat → Int → Option Nat} (hT : Trie TE F) {r : Nat} {u u' : List Int} (h : RowOf TE r u) (h' : RowOf TE r u') : u = u' := by
  rcases h with ⟨h1, rfl⟩ | ⟨i, h1, h2⟩
  · rcases h' with ⟨_, rfl⟩ | ⟨j, h3, h4⟩
    · rfl
    · omega
  · rcases h' with ⟨_, rfl⟩ | ⟨j, h3, h4⟩
    · omega
    · obtain rfl : i = j := by omega
      rw [h2] at h4
      injection h4
set_option maxHeartbeats 2000000 in
theorem longestC (w0 : World) (g B n told N c : Nat) (bs : List Nat) (L zs : List Int) (F : Nat → Int → Option Nat) (A : Option Addr) (TE : List (List Int)) (w : World) (h : WS w0 w g B bs L n F told) (hb : Byt w0 w0.heap.size A N c zs) (hN : 0 < N) (hN1 : N ≤ 1000000) (hT : Trie TE F) (hfew : TE.length ≤ 4000) :
    Calls Try.prog 29 #[.pointer (some ⟨g, 0, none⟩), .slice A N c] w fun r w' => ∃ (row nn : Nat) (q : Nat), r = .returned (.tuple #[.int .i64 row, .int .i64 nn]) ∧ 1 ≤ nn ∧ nn ≤ N ∧ RowOf TE row (zs.take nn) ∧ (nn < N → F row (zs.getD nn 0) = none) ∧ w' = w.drewN q := by
  have HW := Lib.hid h
  have HB := Lib.hid (hb.below h.low (Nat.le_refl _))
  have HLEN := Lib.hid hb.len
  have HT := Lib.hid hT
  obtain ⟨b, o, rfl, _, hc⟩ := HB.out.cell (by omega)
  have HC := Lib.hid hc
  have hz0 := HB.out.getD 0
  obtain ⟨z0, hz⟩ : ∃ z : Nat, zs.getD 0 0 = z := ⟨(zs.getD 0 0).toNat, by omega⟩
  have ck := hc 0 hN
  rw [hz, Nat.add_zero] at ck
  rw [hz] at hz0
  have HZ0 : Hid (RowOf TE z0 (zs.take 1)) := Lib.hid (.inl ⟨by omega, by have := take_one zs 0 (by rw [hb.len]; omega); rw [List.drop_zero, hz] at this; exact this⟩)
  have c0 := h.c0
  have hcap := hb.cap
  have wz : IntKind.i64.wrap (z0 : Int) = z0 := IntWalk.i64_in _ (by omega)
  have HBD : Hid (∀ r c : Nat, (Instr.build 79 #[(0, .int .i64 (r : Int)), (1, .int .u8 (c : Int))]).run Try.prog = fun W => .ok (kyV r c) W) := Lib.hid fun r c => by
    funext W
    exact run_build W _ _ _ (by kernel_rfl)
  clear h hb hT hz hc
  go_enter Try.func29, Try.ntmps29
  go_wp2_with fail
  clear ck
  go_loopw [4, 5, 6, 7] (fun rv nv _ _ wr => ∃ (row nn q : Nat), nn ≤ N ∧ rv = .int .i64 row ∧ nv = .int .i64 nn ∧ Hid (1 ≤ nn ∧ row < 5000) ∧ Hid (RowOf TE row (zs.take nn)) ∧ wr = w.drewN q) (fun _ nv _ _ _ => N - (intOf nv).toNat)
  case atStart => exact ⟨z0, 1, 0, by omega, rfl, rfl, Lib.hid ⟨by omega, by omega⟩, HZ0, rfl⟩
  case round =>
    obtain ⟨row, nn, q, hnN, rfl, rfl, HN, HR, rfl⟩ := hrel
    by_cases hlt : nn < N
    · have hn := HN.out
      have hgz := HB.out.getD nn
      have ck := HC.out nn hlt
      obtain ⟨z, hz⟩ : ∃ z : Nat, zs.getD nn 0 = z := ⟨(zs.getD nn 0).toNat, by omega⟩
      rw [hz] at ck hgz
      have HZ := Lib.hid hz
      obtain ⟨v, hlk, hv⟩ := (HW.out.tab.drewN (q + 1)).look row z (by omega) (by omega) (by omega)
      have hbd := HBD.out row z
      have hni : (nn : Int) < N := by omega
      cases hF : F row z with
      | none =>
        have HNO := Lib.hid hF
        rw [hF] at hlk
        clear hF hv hn
        have hlk2 : (Instr.lookup 45 (.map (some B)) (.agg #[.int .i64 (row : Int), .int .u8 (z : Int)]) true).run Try.prog (w.drewN (q + 1)) = .ok (.tuple #[.int .i64 v, .bool false]) (w.drewN (q + 1)) := hlk
        clear hlk
        go_upto_region 5 with fail
        go_region
        go_wp2_with fail
        go_ret2
        exact ⟨row, nn, q + 1, rfl, HN.out.1, hnN, HR.out, fun _ => by rw [HZ.out]; exact HNO.out, rfl⟩
      | some x =>
        have hvx := hv x hF
        subst hvx
        obtain ⟨j, t, u, h1, h2, h3, h4⟩ := HT.out.t1 row z x hF
        have hu := HR.out
        have hrow : Hid (RowOf TE x (zs.take (nn + 1))) := Lib.hid (.inr ⟨j, h1, by
          have e := take_next zs 0 nn (by rw [HLEN.out]; omega)
          rw [List.drop_zero, Nat.zero_add, HZ.out] at e
          rw [h2, h4, e]
          obtain ⟨j', t', u', h1', h2', h3', h4'⟩ := HT.out.t1 row z x hF
          rw [RowOf.det HT.out h3 hu]⟩)
        have hxl := (List.getElem?_eq_some_iff.1 h2).1
        rw [hF] at hlk
        have hlk2 : (Instr.lookup 45 (.map (some B)) (.agg #[.int .i64 (row : Int), .int .u8 (z : Int)]) true).run Try.prog (w.drewN (q + 1)) = .ok (.tuple #[.int .i64 (x : Int), .bool true]) (w.drewN (q + 1)) := hlk
        have HX : Hid (1 ≤ nn + 1 ∧ x < 5000) := Lib.hid (by omega)
        clear hlk hF hv h1 h2 h3 h4 hu hxl hn
        go_upto_region 5 with fail
        go_region
        go_wp2_with fail
        go_roundw
        case rel => exact ⟨x, nn + 1, q + 1, by omega, rfl, by go_num, HX, hrow, rfl⟩
        case measure => simp [intOf]; omega
    · obtain rfl : N = nn := by omega
      have hn := HN.out
      go_wp2_with fail
      go_ret2
      exact ⟨row, N, q, rfl, hn.1, Nat.le_refl _, HR.out, fun h => absurd h (Nat.lt_irrefl _), rfl⟩
end Go.Proofs.Ytpnnejedfccckaa
