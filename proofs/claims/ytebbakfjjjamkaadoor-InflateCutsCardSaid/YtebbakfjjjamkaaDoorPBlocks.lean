/- The project's own Blocks (package inflate): the same as the document's. -/
import Derived.Test.YtebbakfjjjamkaaDoorPBlock
namespace Go.Proofs.YtebbakfjjjamkaaDoor
open Go.RowKit
set_option linter.unusedVariables false
set_option maxRecDepth 100000

theorem blockS_bit (zs : List Int) (most p : Nat) (out : List Int) (h : p + 1 ≤ 8 * zs.length) : blockS zs most p out = blkS zs most (p + 1) out := by
  have ht : takeS zs p 0 1 = (bitsZ zs p 1, p + 1, 0) := by unfold takeS; rw [if_pos rfl, if_pos h]
  unfold blockS blkS
  rw [ht]
theorem blockS_short (zs : List Int) (most p : Nat) (out : List Int) (h : ¬ p + 1 ≤ 8 * zs.length) : (blockS zs most p out).2.1 = 2 := by
  have ht : takeS zs p 0 1 = (0, p, 2) := by unfold takeS; rw [if_pos rfl, if_neg h]
  have ht2 : takeS zs p 2 2 = (0, p, 2) := takeS_bad zs p 2 2 (by decide)
  unfold blockS
  rw [ht]
  dsimp only
  rw [ht2]
  rfl
theorem blkS_short (zs : List Int) (most p : Nat) (out : List Int) (h : ¬ p + 2 ≤ 8 * zs.length) : blkS zs most p out = (p, 2, out) := by
  have ht : takeS zs p 0 2 = (0, p, 2) := by unfold takeS; rw [if_pos rfl, if_neg h]
  unfold blkS
  rw [ht]
  rfl

/-- What the project's Blocks leaves. -/
def FlowPost2 (w : World) (M : Nat) (x : List Int × Nat × Int) (r : Ending) (w' : World) : Prop :=
  ∃ (A' : Option Addr) (c' : Nat), r = .returned (.tuple #[.slice A' x.1.length c', .int .i64 x.2.1, .int .i64 x.2.2]) ∧ Byt w' w'.heap.size A' x.1.length c' x.1 ∧ x.1.length ≤ M ∧ From w.heap.size A' x.1.length ∧ Below w.heap.size w w'
set_option maxHeartbeats 4000000 in
theorem inBlocks2 (A : Option Addr) (n c M : Nat) (m : Int) (zs : List Int) (w : World) (hb : Byt w w.heap.size A n c zs) (ho : Ord w) (hn : n ≤ 1000000) (hM : M ≤ 100000000) (hm : max m 0 = M) (m0 : -9223372036854775808 ≤ m) :
    Calls Tryd.prog 12 #[.slice A n c, .int .i64 m] w (FlowPost2 w M (blocksS zs M)) := by
  have HOP := Lib.hid (popenC A n c zs w)
  have HB := Lib.hid hb
  have HO := Lib.hid ho
  obtain ⟨res, hres⟩ : ∃ x, blocksS zs M = x := ⟨_, rfl⟩
  have HRES := Lib.hid hres
  rw [hres]
  clear hb ho hres
  go_enter Tryd.func12, Tryd.ntmps12
  go_upto_region 3 with (go_at_call 25; refine HOP.out.mono ?_; rintro r w2 ⟨rfl, hp2, hb2, hs2⟩; have HP2 := Lib.hid hp2; have HB2 := Lib.hid hb2; have HS2 := Lib.hid hs2; clear hp2 hb2 hs2)
  have hs2 := HS2.out
  have hc2 := HP2.out.cur
  have HR0 : Hid (RS (w2.alloc (.cells #[.pointer (some ⟨w.heap.size + 1, 0, none⟩), .slice none 0 0, .int .i64 M, .pointer none] 50)) w2.heap.size (w.heap.size + 1) w.heap.size (fun i => i < w.heap.size) A n c zs 0 (.slice none 0 0) [] M (.pointer none)) := Lib.hid (by
    have hb := (Below.refl w2.heap.size w2).alloc (Nat.le_refl _) (.cells #[.pointer (some ⟨w.heap.size + 1, 0, none⟩), .slice none 0 0, .int .i64 M, .pointer none] 50)
    exact ⟨HP2.out.below hb (by omega) (by omega), heap_alloc_new w2 _, by omega, by omega, Mine.nil _ 0, (fun b hb => by cases hb), (fun h => by have h1 : w2.heap.size < w.heap.size := h; omega), (fun h => by have h1 : w.heap.size + 1 < w.heap.size := h; omega), (fun h => by have h1 : w.heap.size < w.heap.size := h; omega), (fun i hi => by have h1 : i < w.heap.size := hi; simp; omega), Nat.zero_le _⟩)
  have HB0 : Hid (Below w.heap.size w (w2.alloc (.cells #[.pointer (some ⟨w.heap.size + 1, 0, none⟩), .slice none 0 0, .int .i64 M, .pointer none] 50))) := Lib.hid (HB2.out.alloc (by omega) _)
  obtain ⟨W0, hW0⟩ : ∃ W0, w2.alloc (.cells #[.pointer (some ⟨w.heap.size + 1, 0, none⟩), .slice none 0 0, .int .i64 M, .pointer none] 50) = W0 := ⟨_, rfl⟩
  obtain ⟨kr, hkr⟩ : ∃ kr, w2.heap.size = kr := ⟨_, rfl⟩
  obtain ⟨kb, hkb⟩ : ∃ kb, w.heap.size + 1 = kb := ⟨_, rfl⟩
  rw [hW0, hkr, hkb] at HR0
  rw [hW0] at HB0
  rw [hW0, hkr, hkb]
  clear hs2 hc2 hW0 hkr hkb HP2 HB2 HS2 HOP
  have HLEN := Lib.hid HB.out.len
  have hR0 : blocksR zs M (8 * n + 1) 0 [] = res := by rw [← HRES.out, ← HLEN.out]; rfl
  have HRS0 := Lib.hid hR0
  clear hR0
  go_loopg [8] (8 * n + 1) (fun g lv wr => ∃ (b : Bool) (p : Nat) (us : Nat → Prop) (v fx : Value) (out : List Int), lv = .bool b ∧ Hid (if b = true then res = (out, (p + 7) / 8, 0) else (blocksR zs M g p out = res ∧ 8 * n < p + g ∧ p ≤ 8 * n)) ∧ Hid (RS wr kr kb w.heap.size us A n c zs p v out M fx) ∧ Hid (FX wr us fx) ∧ Hid (∀ i, i < w.heap.size → us i) ∧ Hid (Below w.heap.size w wr))
  case atStart => exact ⟨false, 0, _, _, _, [], rfl, Lib.hid (by rw [if_neg (by decide)]; exact ⟨HRS0.out, by omega, by omega⟩), HR0, Lib.hid (.inl rfl), Lib.hid (fun i hi => hi), HB0⟩
  case round =>
    obtain ⟨b, p, us, v, fx, out, rfl, HI, HR, HF, HU, HBE⟩ := hrel
    have c0 := HR.out.c0
    cases b with
    | true =>
      have hI := HI.out
      rw [if_pos rfl] at hI
      have HI2 := Lib.hid hI
      have c1 := HR.out.c1
      have d0 := HR.out.pb.c0
      have HPOS := Lib.hid (fun i => pos_any w.heap.size n c ((p + 7) / 8) A (wr.drewN i) (HR.out.pb.cur.drewN i))
      obtain ⟨A9, c9, hv9, hby9⟩ := HR.out.row.byt
      subst hv9
      have HBY9 := Lib.hid hby9
      have HLE := Lib.hid HR.out.row.le
      clear hI hby9
      go_wp2_with fail
      go_quiet ((go_at_call 18; exact quietL (HPOS.out _)))
      go_wp2_with fail
      go_ret3
      refine ⟨A9, c9, by rw [HI2.out]; rfl, ?_, ?_, ?_, below_drewN HBE.out _⟩
      · rw [HI2.out]; exact HBY9.out.drewN _
      · rw [HI2.out]; exact HR.out.lm
      · intro _ b o e
        subst e
        exact Nat.le_of_not_lt fun hlt => (HR.out.own b rfl).1 (HU.out b hlt)
    | false =>
      have hI := HI.out
      rw [if_neg (by decide)] at hI
      obtain ⟨hI1, hI2, hI3⟩ := hI
      obtain ⟨g, rfl⟩ : ∃ g, gk = g + 1 := ⟨gk - 1, by omega⟩
      rw [blocksR] at hI1
      have hBW := fun W (hW : Below w.heap.size w W) => HB.out.below hW (Nat.le_refl _)
      have hbl := HR.out.ble HU.out
      have hbit := pbitC kb w.heap.size n c p w.heap.size A zs wr HR.out.pb (hBW wr HBE.out) hbl.1 hbl.2.1 hn
      by_cases hf : p + 1 ≤ 8 * zs.length
      · have v1 : ptakeV zs p 1 = bitsZ zs p 1 := by unfold ptakeV; rw [if_pos ⟨by omega, by omega, by omega⟩]; rfl
        have p1 : ptakeP zs p 1 = p + 1 := by unfold ptakeP; rw [if_pos ⟨by omega, by omega, by omega⟩]; rfl
        have ht : (takeS zs p 0 1).1 = bitsZ zs p 1 := by unfold takeS; rw [if_pos rfl, if_pos hf]
        have hbb := blockS_bit zs M p out hf
        have hbp := blockS_p zs M p out (by rw [HLEN.out]; exact hI3)
        rw [v1, p1] at hbit
        rw [ht] at hI1
        rw [hbb] at hI1 hbp
        have hxb := bitsZ_bd zs p 1
        have hx2 : bitsZ zs p 1 < 2 := hxb.2
        obtain ⟨x, hx⟩ : ∃ x, bitsZ zs p 1 = x := ⟨_, rfl⟩
        rw [hx] at hbit hI1 hxb hx2
        obtain ⟨p', e', out', hk⟩ : ∃ a b c, blkS zs M (p + 1) out = (a, b, c) := ⟨_, _, _, rfl⟩
        rw [hk] at hI1 hbp
        rw [HLEN.out] at hbp
        dsimp only at hI1 hbp
        have HBT := Lib.hid hbit
        have HBK := Lib.hid (fun W (hK : Keeps us wr W) (hR : RS W kr kb w.heap.size us A n c zs (p + 1) v out M fx) => pblock kr kb w.heap.size n c (p + 1) w.heap.size M A v fx out zs us W hR (hBW W (HBE.out.trans (keeps_below hK HU.out))) HU.out hn hM (HO.out.below (HBE.out.trans (keeps_below hK HU.out)) (Nat.le_refl _)) (HU.out _ HO.out.lt) (HF.out.keeps hK) p' e' out' hk)
        have HX0 := Lib.hid hxb.1
        clear hbl hbit hbb hk hx v1 p1 ht hBW hxb hf
        by_cases he : ¬ e' = 0
        · rw [if_pos he] at hI1
          have hz : (e' == 0) = false := beq_eq_false_iff_ne.2 he
          have HI1 := Lib.hid hI1
          clear hI1 he hbp
          go_wp2_with (first
            | (go_at_call 26; refine HBT.out.mono ?_; rintro r w4 ⟨rfl, hb4, ho4⟩; have HK4 := Lib.hid (ho4.keeps HR.out); have HR4 := Lib.hid (HR.out.read ho4 hb4); clear hb4 ho4)
            | (go_at_call 27; refine (HBK.out _ HK4.out HR4.out).mono ?_; rintro r w5 ⟨rfl, hk5, _⟩; have HK5 := Lib.hid (HK4.out.trans hk5); clear hk5))
          go_ret3
          exact ⟨none, 0, by rw [← HI1.out]; rfl, by rw [← HI1.out]; exact Byt.none_ _ _, by rw [← HI1.out]; exact Nat.zero_le _, (fun _ b o e => by cases e), HBE.out.trans (keeps_below HK5.out HU.out)⟩
        · have he := Decidable.not_not.1 he
          subst he
          rw [if_neg (show ¬ ¬ (0 : Int) = 0 by decide)] at hI1
          have hbp3 := hbp.2.2 rfl
          have HBP := Lib.hid (And.intro hbp.1 hbp3)
          have HGG := Lib.hid hI2
          by_cases hx1 : x = 1
          · rw [if_pos hx1] at hI1
            have HI1 := Lib.hid hI1
            subst hx1
            clear hI1 hbp hbp3
            go_wp2_with (first
              | (go_at_call 26; refine HBT.out.mono ?_; rintro r w4 ⟨rfl, hb4, ho4⟩; have HK4 := Lib.hid (ho4.keeps HR.out); have HR4 := Lib.hid (HR.out.read ho4 hb4); clear hb4 ho4)
              | (go_at_call 27; refine (HBK.out _ HK4.out HR4.out).mono ?_; rintro r w5 ⟨rfl, hk5, hr5⟩; have HK5 := Lib.hid (HK4.out.trans hk5); have HR5 := Lib.hid hr5; clear hk5 hr5))
            obtain ⟨us5, v5, fx5, hus5, hR5, hF5⟩ := HR5.out (by first | rfl | trivial)
            have HR6 := Lib.hid hR5
            have HF6 := Lib.hid hF5
            have HU6 := Lib.hid (fun i (hi : i < w.heap.size) => hus5 i (HU.out i hi))
            clear hR5 hF5 hus5
            go_roundg g
            case measure => omega
            case rel => exact ⟨true, p', us5, v5, fx5, out', rfl, Lib.hid (by rw [if_pos rfl]; exact HI1.out.symm), HR6, HF6, HU6, Lib.hid (HBE.out.trans (keeps_below HK5.out HU.out))⟩
          · rw [if_neg hx1] at hI1
            have HI1 := Lib.hid hI1
            have hx0 : x = 0 := by have := HX0.out; omega
            subst hx0
            clear hI1 hbp hbp3 hx1
            go_wp2_with (first
              | (go_at_call 26; refine HBT.out.mono ?_; rintro r w4 ⟨rfl, hb4, ho4⟩; have HK4 := Lib.hid (ho4.keeps HR.out); have HR4 := Lib.hid (HR.out.read ho4 hb4); clear hb4 ho4)
              | (go_at_call 27; refine (HBK.out _ HK4.out HR4.out).mono ?_; rintro r w5 ⟨rfl, hk5, hr5⟩; have HK5 := Lib.hid (HK4.out.trans hk5); have HR5 := Lib.hid hr5; clear hk5 hr5))
            obtain ⟨us5, v5, fx5, hus5, hR5, hF5⟩ := HR5.out (by first | rfl | trivial)
            have HR6 := Lib.hid hR5
            have HF6 := Lib.hid hF5
            have HU6 := Lib.hid (fun i (hi : i < w.heap.size) => hus5 i (HU.out i hi))
            clear hR5 hF5 hus5
            go_roundg g
            case measure => omega
            case rel => exact ⟨false, p', us5, v5, fx5, out', rfl, Lib.hid (by rw [if_neg (by decide)]; exact ⟨HI1.out, by have := HBP.out; have := HGG.out; omega, HBP.out.1⟩), HR6, HF6, HU6, Lib.hid (HBE.out.trans (keeps_below HK5.out HU.out))⟩
      · have hsh := blockS_short zs M p out hf
        rw [hsh, if_pos (by decide)] at hI1
        have v1 : ptakeV zs p 1 = -1 := by unfold ptakeV; rw [if_neg (by omega)]
        have p1 : ptakeP zs p 1 = p := by unfold ptakeP; rw [if_neg (by omega)]
        rw [v1, p1] at hbit
        have hk := blkS_short zs M p out (by omega)
        have HBT := Lib.hid hbit
        have HI1 := Lib.hid hI1
        have HBK := Lib.hid (fun W (hK : Keeps us wr W) (hR : RS W kr kb w.heap.size us A n c zs p v out M fx) => pblock kr kb w.heap.size n c p w.heap.size M A v fx out zs us W hR (hBW W (HBE.out.trans (keeps_below hK HU.out))) HU.out hn hM (HO.out.below (HBE.out.trans (keeps_below hK HU.out)) (Nat.le_refl _)) (HU.out _ HO.out.lt) (HF.out.keeps hK) p 2 out hk)
        clear hI1 hbl hbit hk v1 p1 hBW hsh hf
        go_wp2_with (first
          | (go_at_call 26; refine HBT.out.mono ?_; rintro r w4 ⟨rfl, hb4, ho4⟩; have HK4 := Lib.hid (ho4.keeps HR.out); have HR4 := Lib.hid (HR.out.read ho4 hb4); clear hb4 ho4)
          | (go_at_call 27; refine (HBK.out _ HK4.out HR4.out).mono ?_; rintro r w5 ⟨rfl, hk5, _⟩; have HK5 := Lib.hid (HK4.out.trans hk5); clear hk5))
        go_ret3
        exact ⟨none, 0, by rw [← HI1.out]; rfl, by rw [← HI1.out]; exact Byt.none_ _ _, by rw [← HI1.out]; exact Nat.zero_le _, (fun _ b o e => by cases e), HBE.out.trans (keeps_below HK5.out HU.out)⟩
theorem inBlocks (A : Option Addr) (n c M : Nat) (m : Int) (zs : List Int) (w : World) (hb : Byt w w.heap.size A n c zs) (ho : Ord w) (hn : n ≤ 1000000) (hM : M ≤ 100000000) (hm : max m 0 = M) (m0 : -9223372036854775808 ≤ m) :
    Calls Tryd.prog 12 #[.slice A n c, .int .i64 m] w (FlowPost w (blocksS zs M)) :=
  (inBlocks2 A n c M m zs w hb ho hn hM hm m0).mono fun r w' ⟨A', c', h1, h2, h3, _, h5⟩ => ⟨A', c', h1, h2, by omega, h5⟩
end Go.Proofs.YtebbakfjjjamkaaDoor
