/- Contracts of functions that the law calls, and what they lean on (a part). -/
import Derived.Test.YtpomkhcobpihmaaBla2
import Derived.Test.YtpomkhcobpihmaaBla9
namespace Go.Proofs.Ytpomkhcobpihmaa
section
open Go.RowKit
set_option linter.unusedVariables false
/-- Does a sign stand at a place? -/
theorem stB_one (zs : List Int) (p : Nat) (c : UInt8) (hr : ∀ z ∈ zs, 0 ≤ z ∧ z < 256) (h : p < zs.length) : stB zs p ⟨#[c]⟩ = decide (zs.getD p 0 = (c.toNat : Int)) := by
  have hs : (⟨#[c]⟩ : ByteArray).size = 1 := rfl
  rw [stB_yes zs p _ (by rw [hs]; omega), hs]
  have e : (zs.drop p).take 1 = [zs.getD p 0] := by rw [drop_getD zs p h]; rfl
  have hz : 0 ≤ zs.getD p 0 ∧ zs.getD p 0 < 256 := by
    have : zs.getD p 0 = zs[p] := by simp [List.getD, h]
    rw [this]; exact hr _ (List.getElem_mem h)
  rw [e]
  obtain ⟨z, hzz⟩ : ∃ z, zs.getD p 0 = z := ⟨_, rfl⟩
  rw [hzz] at hz ⊢
  rw [ByteArray.toList_eq, ByteArray.toList_eq]
  show ([UInt8.ofNat z.toNat] == [c]) = _
  by_cases hc : z = (c.toNat : Int)
  · subst hc
    rw [decide_eq_true rfl]
    simp
  · rw [decide_eq_false hc]
    refine beq_eq_false_iff_ne.2 fun he => hc ?_
    have h1 : UInt8.ofNat z.toNat = c := by simpa using he
    have h2 := congrArg UInt8.toNat h1
    simp at h2
    omega
theorem stB_end (zs : List Int) (p : Nat) (c : UInt8) (h : zs.length ≤ p) : stB zs p ⟨#[c]⟩ = false := stB_no zs p _ (by have : (⟨#[c]⟩ : ByteArray).size = 1 := rfl; omega)
/-- Match, at one sign. -/
theorem match1 (g n c p B : Nat) (A : Option Addr) (zs : List Int) (s : UInt8) (w : World) (h : Cur w g A n c p) (hb : Byt w B A n c zs) (hp : p ≤ n) (hn : n ≤ 1000000) (b : Bool) (hs : stB zs p ⟨#[s]⟩ = b) :
    Calls Try.prog 93 #[.pointer (some ⟨g, 0, none⟩), .string ⟨#[s]⟩] w fun e w' => e = .returned (.bool b) ∧ Cur w' g A n c (p + if b = true then 1 else 0) ∧ Only g w w' := by
  have h1 : (⟨#[s]⟩ : ByteArray).size = 1 := rfl
  by_cases hlt : p < n
  · cases b
    · refine (match_diff g n c p B A zs ⟨#[s]⟩ w h hb hn (by omega) hs).mono ?_
      rintro e w' ⟨he, k, rfl⟩
      exact ⟨he, h.drewN k, (Only.refl _ _).drewN k⟩
    · exact match_yes g n c p B A zs ⟨#[s]⟩ w h hb hn (by omega) hs
  · have hf : b = false := by rw [← hs]; exact stB_end zs p s (by rw [hb.len]; omega)
    subst hf
    refine (match_no g n c p A zs ⟨#[s]⟩ w h hb.len hp hn (by omega) (by omega)).mono ?_
    rintro e w' ⟨he, k, rfl⟩
    exact ⟨he, h.drewN k, (Only.refl _ _).drewN k⟩
theorem Cur.alloc {w : World} {g n c p : Nat} {A : Option Addr} (h : Cur w g A n c p) (o : Obj) : Cur (w.alloc o) g A n c p := h.below ((Below.refl _ _).alloc (Nat.le_refl _) o) h.lt
theorem size_more (w : World) (o : Obj) : w.heap.size < (w.alloc o).heap.size := by
  have h := heap_alloc_new w o
  rcases Nat.lt_or_ge w.heap.size (w.alloc o).heap.size with h1 | h1
  · exact h1
  · rw [Array.getElem?_eq_none h1] at h; cases h
theorem box_cell {w w2 : World} {g : Nat} {v : Value} {t : TypeId} (hg : g < w.heap.size) (ho : Only g (w.alloc (.cells #[v] t)) w2) : w2.cell? ⟨w.heap.size, 0, none⟩ = some v := by
  rw [ho.cell (p := ⟨w.heap.size, 0, none⟩) (size_more w _) (by show w.heap.size ≠ g; omega), World.cell?_alloc_new]
  rfl
theorem fxMinus (g n c B : Nat) (A : Option Addr) (zs : List Int) (w : World) (h : Cur w g A n c 0) (hb : Byt w B A n c zs) (hB : B ≤ g) (hn : n ≤ 1000000) (s43 s45 : Bool) (h43 : stB zs 0 ⟨#[43]⟩ = s43) (h45 : stB zs 0 ⟨#[45]⟩ = s45) (q : Nat) (hq : q = if s43 = true ∨ s45 = true then 1 else 0) (neg : Bool) (hneg : neg = (!s43 && s45)) :
    Calls Try.prog 124 #[.agg #[.pointer (some ⟨g, 0, none⟩)]] w fun e w' => e = .returned (.bool neg) ∧ Cur w' g A n c q ∧ Only g w w' := by
  have hg := h.lt
  have HQ := Lib.hid hq
  have HNEG := Lib.hid hneg
  clear hq hneg
  have HG := Lib.hid hg
  have H := Lib.hid h
  have HB := Lib.hid hb
  have HBG := Lib.hid hB
  have HM := Lib.hid (fun W (hC : Cur W g A n c 0) (hY : Byt W B A n c zs) => match1 g n c 0 B A zs 43 W hC hY (Nat.zero_le _) hn s43 h43)
  have HN := Lib.hid (fun W (hC : Cur W g A n c 0) (hY : Byt W B A n c zs) => match1 g n c 0 B A zs 45 W hC hY (Nat.zero_le _) hn s45 h45)
  clear h43 h45 h hb hg hB
  cases s43
  · go_enter Try.func124, Try.ntmps124
    go_wp2_with (first
      | (go_at_call 93; have hm := HM.out _ (H.out.alloc (.cells #[.pointer (some ⟨g, 0, none⟩)] 126)) (HB.out.alloc (by have := HG.out; have := HBG.out; omega) _); (with_reducible refine hm.mono ?_); clear hm; rintro e w2 ⟨rfl, hc2, ho2⟩; have hk := box_cell HG.out ho2; have HC2 := Lib.hid hc2; have HO2 := Lib.hid ho2; clear hc2 ho2)
      | (go_at_call 93; have hm := HN.out _ HC2.out (((HB.out.alloc (by have := HG.out; have := HBG.out; omega) _).only HO2.out HBG.out (Nat.le_of_lt (Nat.lt_trans HG.out (size_more _ _))))); (with_reducible refine hm.mono ?_); clear hm; rintro e w3 ⟨rfl, hc3, ho3⟩))
    go_ret
    refine ⟨by rw [HNEG.out]; simp, ?_, ((Only.refl _ _).alloc _).trans (HO2.out.trans ho3)⟩
    rw [HQ.out]
    cases s45
    · simpa using hc3
    · simpa using hc3
  · go_enter Try.func124, Try.ntmps124
    go_wp2_with (first
      | (go_at_call 93; have hm := HM.out _ (H.out.alloc (.cells #[.pointer (some ⟨g, 0, none⟩)] 126)) (HB.out.alloc (by have := HG.out; have := HBG.out; omega) _); (with_reducible refine hm.mono ?_); clear hm; rintro e w2 ⟨rfl, hc2, ho2⟩))
    go_ret
    exact ⟨by rw [HNEG.out]; simp, by rw [HQ.out]; simpa using hc2, ((Only.refl _ _).alloc _).trans ho2⟩
/-- A digit, or none. -/
theorem fxDigit_yes (g n c p B : Nat) (A : Option Addr) (zs : List Int) (w : World) (h : Cur w g A n c p) (hb : Byt w B A n c zs) (hB : B ≤ g) (hn : n ≤ 1000000) (hp : p < n) (z : Int) (hz : zs.getD p 0 = z) (h48 : 48 ≤ z) (h57 : z ≤ 57) :
    Calls Try.prog 134 #[.agg #[.pointer (some ⟨g, 0, none⟩)]] w fun e w' => e = .returned (.tuple #[.int .i64 (z - 48), .bool true]) ∧ Cur w' g A n c (p + 1) ∧ Only g w w' := by
  have hpk := peekZ_in zs p (by rw [hb.len]; exact hp)
  rw [hz] at hpk
  have HP := Lib.hid (fun W (hC : Cur W g A n c p) (hY : Byt W B A n c zs) => hpk ▸ peek_in g n c p B A zs 0 p W hC hY (by omega) hn (by omega) hp)
  have HN := Lib.hid (fun W (hC : Cur W g A n c p) (hY : Byt W B A n c zs) => hpk ▸ next_in g n c p B A zs W hC hY hp hn)
  have HG := Lib.hid h.lt
  have H := Lib.hid h
  have HB := Lib.hid hb
  have HBG := Lib.hid hB
  clear h hb hB hz hpk
  go_enter Try.func134, Try.ntmps134
  go_wp2_with (first
    | (go_at_call 87; refine (HP.out _ (H.out.alloc _) (HB.out.alloc (by have := HG.out; have := HBG.out; omega) _)).mono ?_; rintro e w2 ⟨rfl, k, rfl⟩)
    | (go_at_call 113; refine (HN.out _ ((H.out.alloc _).drewN _) ((HB.out.alloc (by have := HG.out; have := HBG.out; omega) _).drewN _)).mono ?_; rintro e w3 ⟨rfl, hc3, ho3⟩))
  go_ret2
  exact ⟨rfl, hc3, (((Only.refl _ _).alloc _).drewN _).trans ho3⟩
theorem fxDigit_no (g n c p B : Nat) (A : Option Addr) (zs : List Int) (w : World) (h : Cur w g A n c p) (hb : Byt w B A n c zs) (hB : B ≤ g) (hn : n ≤ 1000000) (hp : p ≤ n) (hz : p < n → zs.getD p 0 < 48 ∨ 57 < zs.getD p 0) :
    Calls Try.prog 134 #[.agg #[.pointer (some ⟨g, 0, none⟩)]] w fun e w' => e = .returned (.tuple #[.int .i64 0, .bool false]) ∧ Cur w' g A n c p ∧ Only g w w' := by
  obtain ⟨v, hv⟩ : ∃ v, peekZ zs ((p : Int) + 0) = v := ⟨_, rfl⟩
  have hno : v < 48 ∨ 57 < v := by
    rw [Int.add_zero] at hv
    by_cases hlt : p < n
    · rw [← hv, peekZ_in zs p (by rw [hb.len]; exact hlt)]; exact hz hlt
    · rw [← hv, peekZ_out zs p (.inr (by rw [hb.len]; omega))]; omega
  have HP := Lib.hid (fun W (hC : Cur W g A n c p) (hY : Byt W B A n c zs) => hv ▸ peek_any g n c p B A zs 0 W hC hY hp hn)
  have HG := Lib.hid h.lt
  have H := Lib.hid h
  have HB := Lib.hid hb
  have HBG := Lib.hid hB
  clear h hb hB hz hv
  have hno2 : v < 48 ∨ (decide (v < 48) = false ∧ 57 < v) := by
    rcases hno with h | h
    · exact .inl h
    · exact .inr ⟨decide_eq_false (by omega), h⟩
  clear hno
  rcases hno2 with h1 | ⟨h1, h2⟩
  all_goals
    go_enter Try.func134, Try.ntmps134
    go_wp2_with (first
      | (go_at_call 87; refine (HP.out _ (H.out.alloc _) (HB.out.alloc (by have := HG.out; have := HBG.out; omega) _)).mono ?_; rintro e w2 ⟨rfl, k, rfl⟩))
    go_ret2
    exact ⟨rfl, (H.out.alloc _).drewN _, ((Only.refl _ _).alloc _).drewN _⟩
/-- How many digits stand first. -/
def dlen : List Int → Nat
  | [] => 0
  | z :: r => if 48 ≤ z ∧ z ≤ 57 then dlen r + 1 else 0
theorem dlen_le : ∀ l : List Int, dlen l ≤ l.length
  | [] => Nat.le_refl _
  | z :: r => by rw [dlen]; have := dlen_le r; split <;> simp <;> omega
theorem dlen_in : ∀ (l : List Int) (j : Nat), j < dlen l → 48 ≤ l.getD j 0 ∧ l.getD j 0 ≤ 57
  | [], j, h => by simp [dlen] at h
  | z :: r, j, h => by
    rw [dlen] at h
    split at h
    · next hz =>
      match j with
      | 0 => exact hz
      | j + 1 => have := dlen_in r j (by omega); simpa using this
    · omega
theorem dlen_out : ∀ l : List Int, dlen l < l.length → l.getD (dlen l) 0 < 48 ∨ 57 < l.getD (dlen l) 0
  | [], h => by simp [dlen] at h
  | z :: r, h => by
    rw [dlen] at h ⊢
    split at h
    · next hz =>
      rw [if_pos hz]
      have := dlen_out r (by simp at h; omega)
      simpa using this
    · next hz =>
      rw [if_neg hz]
      simp
      omega
/-- The number that digits say, but for what is too great. -/
def aheadN (l : List Int) : Nat → Int
  | 0 => 0
  | j + 1 => min (aheadN l j * 10 + (l.getD j 0 - 48)) 2147483648
theorem aheadN_bd (l : List Int) : ∀ j, j ≤ dlen l → 0 ≤ aheadN l j ∧ aheadN l j ≤ 2147483648
  | 0, _ => by simp [aheadN]
  | j + 1, h => by
    have := aheadN_bd l j (by omega)
    have := dlen_in l j (by omega)
    rw [aheadN]
    omega
/-- Where a cursor stands. -/
def posOf (w : World) (g : Nat) : Nat := match w.cell? ⟨g, 1, none⟩ with | some (.int _ z) => z.toNat | _ => 0
theorem Cur.posOf {w : World} {g n c p : Nat} {A : Option Addr} (h : Cur w g A n c p) : posOf w g = p := by unfold Go.Proofs.Ytpomkhcobpihmaa.posOf; rw [h.c1]; rfl
def okN : Value → Nat | .bool true => 1 | _ => 0
/-- What a row of digits, read by digit, asks: the digits, each call's answer, the cursor and the bytes on the way. -/
structure Row (g n c p B : Nat) (A : Option Addr) (zs : List Int) (w : World) (l : List Int) (K : Nat) (D : Nat → Int) : Prop where
  hg : g < w.heap.size
  kn : p + K ≤ n
  dig : ∀ j, j < K → 0 ≤ D j ∧ D j ≤ 9
  val : ∀ j, D j = l.getD j 0 - 48
  yes : ∀ W j, j < K → Cur W g A n c (p + j) → Only g (w.alloc (.cells #[.pointer (some ⟨g, 0, none⟩)] 126)) W → Calls Try.prog 134 #[.agg #[.pointer (some ⟨g, 0, none⟩)]] W fun e w' => e = .returned (.tuple #[.int .i64 (D j), .bool true]) ∧ Cur w' g A n c (p + j + 1) ∧ Only g (w.alloc (.cells #[.pointer (some ⟨g, 0, none⟩)] 126)) w'
  no : ∀ W, Cur W g A n c (p + K) → Only g (w.alloc (.cells #[.pointer (some ⟨g, 0, none⟩)] 126)) W → Calls Try.prog 134 #[.agg #[.pointer (some ⟨g, 0, none⟩)]] W fun e w' => e = .returned (.tuple #[.int .i64 0, .bool false]) ∧ Cur w' g A n c (p + K) ∧ Only g (w.alloc (.cells #[.pointer (some ⟨g, 0, none⟩)] 126)) w'
theorem row_of (g n c p B : Nat) (A : Option Addr) (zs : List Int) (w : World) (h : Cur w g A n c p) (hb : Byt w B A n c zs) (hB : B ≤ g) (hn : n ≤ 1000000) (hp : p ≤ n) (l : List Int) (hl : zs.drop p = l) (K : Nat) (hK : dlen l = K) (D : Nat → Int) (hD : ∀ j, D j = l.getD j 0 - 48) :
    Row g n c p B A zs w l K D := by
  have hll : l.length = n - p := by rw [← hl, List.length_drop, hb.len]
  have hle := dlen_le l
  have hge : ∀ j, l.getD j 0 = zs.getD (p + j) 0 := fun j => by rw [← hl, getD_drop]
  rw [hK] at hle
  have hKn : p + K ≤ n := by omega
  have hon : ∀ W, Only g (w.alloc (.cells #[.pointer (some ⟨g, 0, none⟩)] 126)) W → Byt W B A n c zs := fun W ho => (hb.alloc (by have := h.lt; omega) _).only ho hB (Nat.le_of_lt (Nat.lt_trans h.lt (size_more _ _)))
  refine ⟨h.lt, hKn, fun j hj => ?_, hD, fun W j hj hC ho => ?_, fun W hC ho => ?_⟩
  · have := dlen_in l j (by omega)
    rw [hD]; omega
  · have hm := fxDigit_yes g n c (p + j) B A zs W hC (hon W ho) hB hn (by omega) (l.getD j 0) (hge j).symm (dlen_in l j (by omega)).1 (dlen_in l j (by omega)).2
    rw [← hD j] at hm
    exact hm.mono fun e w' ⟨he, hc, h2⟩ => ⟨he, hc, ho.trans h2⟩
  · exact (fxDigit_no g n c (p + K) B A zs W hC (hon W ho) hB hn hKn (fun hlt => by have := dlen_out l (by omega); rw [hK, hge] at this; exact this)).mono fun e w' ⟨he, hc, h2⟩ => ⟨he, hc, ho.trans h2⟩
set_option maxRecDepth 100000 in
theorem fxAhead (g n c p B : Nat) (A : Option Addr) (zs : List Int) (w : World) (h : Cur w g A n c p) (hb : Byt w B A n c zs) (hB : B ≤ g) (hn : n ≤ 1000000) (hp : p ≤ n) (l : List Int) (hl : zs.drop p = l) (K : Nat) (hK : dlen l = K) :
    Calls Try.prog 125 #[.agg #[.pointer (some ⟨g, 0, none⟩)]] w fun e w' => e = .returned (.int .i64 (aheadN l K)) ∧ Cur w' g A n c (p + K) ∧ Only g w w' := by
  obtain ⟨D, hD⟩ : ∃ D : Nat → Int, ∀ j, D j = l.getD j 0 - 48 := ⟨_, fun _ => rfl⟩
  have HR := Lib.hid (row_of g n c p B A zs w h hb hB hn hp l hl K hK D hD)
  have hbd : ∀ j, j ≤ K → 0 ≤ aheadN l j ∧ aheadN l j ≤ 2147483648 := fun j hj => aheadN_bd l j (by omega)
  have hst : ∀ j, aheadN l (j + 1) = min (aheadN l j * 10 + D j) 2147483648 := fun j => by rw [hD]; rfl
  have hz : aheadN l 0 = 0 := rfl
  obtain ⟨V, hV⟩ : ∃ V : Nat → Int, ∀ j, aheadN l j = V j := ⟨_, fun _ => rfl⟩
  simp only [hV] at hbd hst hz ⊢
  have HBD := Lib.hid hbd
  have HST := Lib.hid hst
  have HZ := Lib.hid hz
  have HC0 := Lib.hid (h.alloc (.cells #[.pointer (some ⟨g, 0, none⟩)] 126))
  clear h hb hB hn hp hl hK hD hbd hst hz hV
  by_cases hK0 : 0 < K
  · have HM := Lib.hid (HR.out.yes _ 0 hK0 HC0.out (Only.refl _ _))
    go_enter Try.func125, Try.ntmps125
    go_wp2_with (first
      | (go_at_call 134; (with_reducible refine HM.out.mono ?_); rintro e w2 ⟨rfl, hc2, ho2⟩))
    have HC2 := Lib.hid hc2
    have HO2 := Lib.hid ho2
    clear hc2 ho2
    go_loopw [3, 4, 5] (fun nn d ok wr => ∃ j : Nat, nn = .int .i64 (V j) ∧ Hid (Only g (w.alloc (.cells #[.pointer (some ⟨g, 0, none⟩)] 126)) wr) ∧ ((j < K ∧ d = .int .i64 (D j) ∧ ok = .bool true ∧ Hid (Cur wr g A n c (p + j + 1))) ∨ (j = K ∧ d = .int .i64 0 ∧ ok = .bool false ∧ Hid (Cur wr g A n c (p + K))))) (fun _ _ ok wr => (n - posOf wr g) * 2 + okN ok)
    case atStart => exact ⟨0, by rw [HZ.out], HO2, .inl ⟨hK0, rfl, rfl, HC2⟩⟩
    case round =>
      obtain ⟨j, rfl, ho, ⟨hj, rfl, rfl, hc⟩ | ⟨hj, rfl, rfl, hc⟩⟩ := hrel
      · obtain ⟨v0, v1⟩ := HBD.out j (by omega)
        obtain ⟨d0, d1⟩ := HR.out.dig j hj
        have hk := box_cell HR.out.hg ho.out
        have hs := HST.out j
        obtain ⟨v, hv⟩ : ∃ v, V j = v := ⟨_, rfl⟩
        obtain ⟨d, hd⟩ : ∃ d, D j = d := ⟨_, rfl⟩
        rw [hv, hd] at hs
        rw [hv] at v0 v1 ⊢
        rw [hd] at d0 d1 ⊢
        have HS := Lib.hid hs
        clear hs hv hd
        by_cases hj1 : j + 1 < K
        · have HM2 := Lib.hid (HR.out.yes wr (j + 1) hj1 hc.out ho.out)
          go_wp2_with (first
            | (go_at_call 134; (with_reducible refine HM2.out.mono ?_); rintro e w3 ⟨rfl, hc3, ho3⟩))
          go_roundw
          case rel => exact ⟨j + 1, by rw [HS.out], ho3, .inl ⟨hj1, rfl, rfl, hc3⟩⟩
          case measure =>
            rw [hc3.posOf, hc.out.posOf]
            have := HR.out.kn
            simp only [okN]
            omega
        · have hjK : j + 1 = K := by omega
          have HM2 := Lib.hid (HR.out.no wr (by rw [← hjK]; exact hc.out) ho.out)
          go_wp2_with (first
            | (go_at_call 134; (with_reducible refine HM2.out.mono ?_); rintro e w3 ⟨rfl, hc3, ho3⟩))
          go_roundw
          case rel => exact ⟨j + 1, by rw [HS.out], ho3, .inr ⟨hjK, rfl, rfl, hc3⟩⟩
          case measure =>
            rw [hc3.posOf, hc.out.posOf]
            have := HR.out.kn
            simp only [okN]
            omega
      · subst hj
        go_wp2
        go_ret
        exact ⟨rfl, hc.out, ((Only.refl _ _).alloc _).trans ho.out⟩
  · obtain rfl : K = 0 := by omega
    have HM := Lib.hid (HR.out.no _ HC0.out (Only.refl _ _))
    go_enter Try.func125, Try.ntmps125
    go_wp2_with (first
      | (go_at_call 134; (with_reducible refine HM.out.mono ?_); rintro e w2 ⟨rfl, hc2, ho2⟩))
    have HC2 := Lib.hid hc2
    have HO2 := Lib.hid ho2
    clear hc2 ho2
    go_loopw [3, 4, 5] (fun nn d ok wr => ∃ j : Nat, nn = .int .i64 (V j) ∧ Hid (Only g (w.alloc (.cells #[.pointer (some ⟨g, 0, none⟩)] 126)) wr) ∧ ((j < 0 ∧ d = .int .i64 (D j) ∧ ok = .bool true ∧ Hid (Cur wr g A n c (p + j + 1))) ∨ (j = 0 ∧ d = .int .i64 0 ∧ ok = .bool false ∧ Hid (Cur wr g A n c (p + 0))))) (fun _ _ ok wr => (n - posOf wr g) * 2 + okN ok)
    case atStart => exact ⟨0, by rw [HZ.out], HO2, .inr ⟨rfl, rfl, rfl, HC2⟩⟩
    case round =>
      obtain ⟨j, rfl, ho, ⟨hj, _⟩ | ⟨rfl, rfl, rfl, hc⟩⟩ := hrel
      · omega
      · go_wp2
        go_ret
        exact ⟨rfl, hc.out, ((Only.refl _ _).alloc _).trans ho.out⟩
/-- The parts that a digit behind the point counts. -/
def unitA : Nat → Int
  | 0 => 100000
  | j + 1 => unitA j / 10
def fracN (l : List Int) : Nat → Int
  | 0 => 0
  | j + 1 => fracN l j + (l.getD j 0 - 48) * unitA (j + 1)
theorem unitA_bd : ∀ j, 0 ≤ unitA j ∧ unitA j ≤ 100000
  | 0 => by simp [unitA]
  | j + 1 => by have := unitA_bd j; rw [unitA]; omega
theorem fracN_bd (l : List Int) : ∀ j, j ≤ dlen l → 0 ≤ fracN l j ∧ fracN l j + unitA j ≤ 100000
  | 0, _ => by simp [fracN, unitA]
  | j + 1, h => by
    have h1 := fracN_bd l j (by omega)
    have h2 := dlen_in l j (by omega)
    have h3 := unitA_bd (j + 1)
    have h4 := Int.mul_nonneg (show 0 ≤ l.getD j 0 - 48 by omega) h3.1
    have h5 := Int.mul_le_mul_of_nonneg_right (show l.getD j 0 - 48 ≤ 9 by omega) h3.1
    have h6 : unitA (j + 1) = unitA j / 10 := rfl
    rw [fracN]
    omega
set_option maxRecDepth 100000 in
theorem fxBehind (g n c p B : Nat) (A : Option Addr) (zs : List Int) (w : World) (h : Cur w g A n c p) (hb : Byt w B A n c zs) (hB : B ≤ g) (hn : n ≤ 1000000) (hp : p ≤ n) (l : List Int) (hl : zs.drop p = l) (K : Nat) (hK : dlen l = K) :
    Calls Try.prog 126 #[.agg #[.pointer (some ⟨g, 0, none⟩)]] w fun e w' => e = .returned (.int .i64 (fracN l K)) ∧ Cur w' g A n c (p + K) ∧ Only g w w' := by
  obtain ⟨D, hD⟩ : ∃ D : Nat → Int, ∀ j, D j = l.getD j 0 - 48 := ⟨_, fun _ => rfl⟩
  have HR := Lib.hid (row_of g n c p B A zs w h hb hB hn hp l hl K hK D hD)
  have hbd : ∀ j, j ≤ K → 0 ≤ fracN l j ∧ fracN l j + unitA j ≤ 100000 := fun j hj => fracN_bd l j (by omega)
  have hst : ∀ j, fracN l (j + 1) = fracN l j + D j * unitA (j + 1) := fun j => by rw [hD]; rfl
  have hz : fracN l 0 = 0 := rfl
  have huz : unitA 0 = 100000 := rfl
  have hus : ∀ j, unitA (j + 1) = unitA j / 10 := fun j => rfl
  have hub := unitA_bd
  obtain ⟨V, hV⟩ : ∃ V : Nat → Int, ∀ j, fracN l j = V j := ⟨_, fun _ => rfl⟩
  obtain ⟨U, hU⟩ : ∃ U : Nat → Int, ∀ j, unitA j = U j := ⟨_, fun _ => rfl⟩
  simp only [hV, hU] at hbd hst hz huz hus hub ⊢
  have HBD := Lib.hid hbd
  have HST := Lib.hid hst
  have HZ := Lib.hid hz
  have HUZ := Lib.hid huz
  have HUS := Lib.hid hus
  have HUB := Lib.hid hub
  have HC0 := Lib.hid (h.alloc (.cells #[.pointer (some ⟨g, 0, none⟩)] 126))
  clear h hb hB hn hp hl hK hD hbd hst hz hV huz hus hub hU
  by_cases hK0 : 0 < K
  · have HM := Lib.hid (HR.out.yes _ 0 hK0 HC0.out (Only.refl _ _))
    go_enter Try.func126, Try.ntmps126
    go_wp2_with (first
      | (go_at_call 134; (with_reducible refine HM.out.mono ?_); rintro e w2 ⟨rfl, hc2, ho2⟩))
    have HC2 := Lib.hid hc2
    have HO2 := Lib.hid ho2
    clear hc2 ho2
    go_loopw [3, 4, 5, 6] (fun nn uu d ok wr => ∃ j : Nat, nn = .int .i64 (V j) ∧ uu = .int .i64 (U j) ∧ Hid (Only g (w.alloc (.cells #[.pointer (some ⟨g, 0, none⟩)] 126)) wr) ∧ ((j < K ∧ d = .int .i64 (D j) ∧ ok = .bool true ∧ Hid (Cur wr g A n c (p + j + 1))) ∨ (j = K ∧ d = .int .i64 0 ∧ ok = .bool false ∧ Hid (Cur wr g A n c (p + K))))) (fun _ _ _ ok wr => (n - posOf wr g) * 2 + okN ok)
    case atStart => exact ⟨0, by rw [HZ.out], by rw [HUZ.out], HO2, .inl ⟨hK0, rfl, rfl, HC2⟩⟩
    case round =>
      obtain ⟨j, rfl, rfl, ho, ⟨hj, rfl, rfl, hc⟩ | ⟨hj, rfl, rfl, hc⟩⟩ := hrel
      · obtain ⟨v0, v1⟩ := HBD.out (j + 1) (by omega)
        obtain ⟨t0, t1⟩ := HBD.out j (by omega)
        obtain ⟨d0, d1⟩ := HR.out.dig j hj
        obtain ⟨u0, u1⟩ := HUB.out j
        obtain ⟨x0, x1⟩ := HUB.out (j + 1)
        have hk := box_cell HR.out.hg ho.out
        have hs := HST.out j
        have hu := HUS.out j
        have m0 := Int.mul_nonneg d0 x0
        have m1 := Int.mul_le_mul_of_nonneg_right d1 x0
        obtain ⟨v, hv⟩ : ∃ v, V j = v := ⟨_, rfl⟩
        obtain ⟨d, hd⟩ : ∃ d, D j = d := ⟨_, rfl⟩
        obtain ⟨u, huu⟩ : ∃ u, U j = u := ⟨_, rfl⟩
        obtain ⟨x, hx⟩ : ∃ x, U (j + 1) = x := ⟨_, rfl⟩
        obtain ⟨y, hy⟩ : ∃ y, V (j + 1) = y := ⟨_, rfl⟩
        rw [hy] at hs v0 v1
        rw [hv, hd, hx] at hs
        rw [hv] at t0 t1 ⊢
        rw [hd] at d0 d1 m0 m1 ⊢
        rw [hx] at hu x0 x1 v1 m0 m1
        rw [huu] at hu u0 u1 t1 ⊢
        have hq : u / 10 = x := hu.symm
        have m2 : d * x ≤ 900000 := by omega
        have HS := Lib.hid hs
        have HX := Lib.hid hx
        have HYY := Lib.hid hy
        clear hs hv hd huu hx hy hu m1 u1 x1
        by_cases hj1 : j + 1 < K
        · have HM2 := Lib.hid (HR.out.yes wr (j + 1) hj1 hc.out ho.out)
          go_wp2_with (first
            | (go_at_call 134; (with_reducible refine HM2.out.mono ?_); rintro e w3 ⟨rfl, hc3, ho3⟩))
          go_roundw
          case rel => exact ⟨j + 1, by rw [HYY.out, HS.out], by rw [HX.out], ho3, .inl ⟨hj1, rfl, rfl, hc3⟩⟩
          case measure =>
            rw [hc3.posOf, hc.out.posOf]
            have := HR.out.kn
            simp only [okN]
            omega
        · have hjK : j + 1 = K := by omega
          have HM2 := Lib.hid (HR.out.no wr (by rw [← hjK]; exact hc.out) ho.out)
          go_wp2_with (first
            | (go_at_call 134; (with_reducible refine HM2.out.mono ?_); rintro e w3 ⟨rfl, hc3, ho3⟩))
          go_roundw
          case rel => exact ⟨j + 1, by rw [HYY.out, HS.out], by rw [HX.out], ho3, .inr ⟨hjK, rfl, rfl, hc3⟩⟩
          case measure =>
            rw [hc3.posOf, hc.out.posOf]
            have := HR.out.kn
            simp only [okN]
            omega
      · subst hj
        go_wp2
        go_ret
        exact ⟨rfl, hc.out, ((Only.refl _ _).alloc _).trans ho.out⟩
  · obtain rfl : K = 0 := by omega
    have HM := Lib.hid (HR.out.no _ HC0.out (Only.refl _ _))
    go_enter Try.func126, Try.ntmps126
    go_wp2_with (first
      | (go_at_call 134; (with_reducible refine HM.out.mono ?_); rintro e w2 ⟨rfl, hc2, ho2⟩))
    have HC2 := Lib.hid hc2
    have HO2 := Lib.hid ho2
    clear hc2 ho2
    go_loopw [3, 4, 5, 6] (fun nn uu d ok wr => ∃ j : Nat, nn = .int .i64 (V j) ∧ uu = .int .i64 (U j) ∧ Hid (Only g (w.alloc (.cells #[.pointer (some ⟨g, 0, none⟩)] 126)) wr) ∧ ((j < 0 ∧ d = .int .i64 (D j) ∧ ok = .bool true ∧ Hid (Cur wr g A n c (p + j + 1))) ∨ (j = 0 ∧ d = .int .i64 0 ∧ ok = .bool false ∧ Hid (Cur wr g A n c (p + 0))))) (fun _ _ _ ok wr => (n - posOf wr g) * 2 + okN ok)
    case atStart => exact ⟨0, by rw [HZ.out], by rw [HUZ.out], HO2, .inr ⟨rfl, rfl, rfl, HC2⟩⟩
    case round =>
      obtain ⟨j, rfl, rfl, ho, ⟨hj, _⟩ | ⟨rfl, rfl, rfl, hc⟩⟩ := hrel
      · omega
      · go_wp2
        go_ret
        exact ⟨rfl, hc.out, ((Only.refl _ _).alloc _).trans ho.out⟩
end

section
set_option linter.unusedVariables false
theorem scan_dig : ∀ (l : List Int) (P D : Nat), scanP l P D = scanP (l.drop (dlen l)) P (D + dlen l)
  | [], P, D => by simp [dlen]
  | z :: r, P, D => by
    rw [dlen]
    by_cases hz : 48 ≤ z ∧ z ≤ 57
    · rw [if_pos hz, scanP, if_neg (by omega), if_pos hz, scan_dig r P (D + 1), List.drop_succ_cons]
      congr 1
      omega
    · rw [if_neg hz]; rfl
/-- As aheadN, from the left. -/
def sat : List Int → Int → Int
  | [], a => a
  | z :: r, a => if 48 ≤ z ∧ z ≤ 57 then sat r (min (a * 10 + (z - 48)) 2147483648) else a
theorem sat_top : ∀ l : List Int, sat l 2147483648 = 2147483648
  | [] => rfl
  | z :: r => by
    rw [sat]
    split
    · next hz => rw [show min (2147483648 * 10 + (z - 48)) 2147483648 = (2147483648 : Int) by omega]; exact sat_top r
    · rfl
theorem dlen_drop (l : List Int) (h : dlen l < l.length) : l.drop (dlen l) = l.getD (dlen l) 0 :: l.drop (dlen l + 1) := drop_getD l _ h
theorem sat_ahead (l : List Int) : ∀ j, j ≤ dlen l → sat l 0 = sat (l.drop j) (aheadN l j)
  | 0, _ => rfl
  | j + 1, h => by
    have hl := dlen_le l
    have hd := dlen_in l j (by omega)
    rw [sat_ahead l j (by omega), drop_getD l j (by omega), sat, if_pos hd]
    rfl
theorem ahead_sat (l : List Int) : aheadN l (dlen l) = sat l 0 := by
  rw [sat_ahead l (dlen l) (Nat.le_refl _)]
  by_cases h : dlen l < l.length
  · rw [dlen_drop l h, sat, if_neg (by have := dlen_out l h; omega)]
  · rw [List.drop_of_length_le (by omega)]; rfl
theorem whole_sat : ∀ (l : List Int) (a : Int), 0 ≤ a → a ≤ 2147483647 → (l.drop (dlen l) = [] ∨ ∃ r, l.drop (dlen l) = 46 :: r) →
    wholeZ l a = if sat l a ≤ 2147483647 then some (sat l a, l.drop (dlen l)) else none
  | [], a, h0, h1, _ => by rw [wholeZ, sat, if_pos h1]; rfl
  | z :: r, a, h0, h1, hr => by
    rw [dlen] at hr ⊢
    rw [sat, wholeZ]
    by_cases hz : 48 ≤ z ∧ z ≤ 57
    · rw [if_pos hz] at hr ⊢
      rw [List.drop_succ_cons] at hr
      rw [if_neg (show ¬ z = 46 by omega), if_pos hz, List.drop_succ_cons]
      by_cases hb : 2147483647 < 10 * a + (z - 48)
      · rw [if_pos hb, show min (a * 10 + (z - 48)) 2147483648 = (2147483648 : Int) by omega, sat_top, if_neg (by omega)]
      · rw [if_neg hb, show min (a * 10 + (z - 48)) 2147483648 = 10 * a + (z - 48) by omega]
        exact whole_sat r _ (by omega) (by omega) hr
    · rw [if_neg hz] at hr ⊢
      rw [if_neg hz, if_pos h1]
      rcases hr with hr | ⟨r', hr⟩
      · cases hr
      · rw [List.drop_zero] at hr ⊢
        injection hr with h2 h3
        rw [if_pos h2]
theorem fracN_more (l : List Int) : ∀ j, fracN l (5 + j) = fracN l 5
  | 0 => rfl
  | j + 1 => by
    have hu : ∀ j, unitA (6 + j) = 0 := by
      intro j
      induction j with
      | zero => decide
      | succ j ih => rw [← Nat.add_assoc, unitA, ih]; rfl
    rw [← Nat.add_assoc, fracN, fracN_more l j, show 5 + j + 1 = 6 + j by omega, hu, Int.mul_zero, Int.add_zero]
theorem fracN_K (l : List Int) (h : dlen l = l.length) : fracN l (dlen l) = fracK l 5 := by
  rw [h]
  match l with
  | [] => simp [fracN, fracK]
  | [a] => simp [fracN, fracK, unitA]; omega
  | [a, b] => simp [fracN, fracK, unitA]; omega
  | [a, b, c] => simp [fracN, fracK, unitA]; omega
  | [a, b, c, d] => simp [fracN, fracK, unitA]; omega
  | a :: b :: c :: d :: e :: r =>
    have hl : (a :: b :: c :: d :: e :: r).length = 5 + r.length := by simp; omega
    rw [hl, fracN_more]
    simp [fracN, fracK, unitA]
    omega
/-- No point. -/
theorem rest_form (neg : Bool) (l : List Int) (hp : dlen l < l.length → l.getD (dlen l) 0 ≠ 46) (h : dlen l < l.length ∨ dlen l = 0) : restS neg l = (0, false, 4) := by
  rw [restS, scan_dig]
  by_cases hlt : dlen l < l.length
  · have hd := dlen_out l hlt
    rw [dlen_drop l hlt, scanP, if_neg (hp hlt), if_neg (by omega)]
  · rw [List.drop_of_length_le (by omega)]
    simp only [scanP]
    rw [if_pos (.inr (by omega))]
theorem rest_whole (neg : Bool) (l : List Int) (h1 : dlen l = l.length) (h0 : 0 < dlen l) : restS neg l = if 2147483647 < aheadN l (dlen l) then (0, false, 5) else (sgZ neg (aheadN l (dlen l)), true, 0) := by
  have e : l.drop (dlen l) = [] := List.drop_of_length_le (by omega)
  rw [restS, scan_dig, e]
  simp only [scanP]
  rw [if_neg (by omega), whole_sat l 0 (by omega) (by omega) (.inl e), ahead_sat]
  by_cases hb : sat l 0 ≤ 2147483647
  · rw [if_pos hb, if_neg (by omega)]
    rfl
  · rw [if_neg hb, if_pos (by omega)]
/-- A point. -/
theorem point_form (neg : Bool) (l : List Int) (hlt : dlen l < l.length) (hp : l.getD (dlen l) 0 = 46) (K : Nat) (hK : dlen (l.drop (dlen l + 1)) = K) (h : dlen l + 1 + K < l.length ∨ dlen l + K = 0) : restS neg l = (0, false, 4) := by
  rw [restS, scan_dig, dlen_drop l hlt, hp, scanP, if_pos rfl, scan_dig, hK]
  by_cases hm : dlen l + 1 + K < l.length
  · obtain ⟨m, hmm⟩ : ∃ m, l.drop (dlen l + 1) = m := ⟨_, rfl⟩
    rw [hmm] at hK ⊢
    have hml : m.length = l.length - (dlen l + 1) := by rw [← hmm, List.length_drop]
    have hd := dlen_out m (by omega)
    rw [← hK, dlen_drop m (by omega), scanP]
    by_cases h46 : m.getD (dlen m) 0 = 46
    · rw [if_pos h46]
      cases hs : scanP (m.drop (dlen m + 1)) (0 + 1 + 1) (0 + dlen l + dlen m) with
      | none => rfl
      | some x =>
        have := (scanP_mono _ _ _ _ hs).1
        obtain ⟨a, b⟩ := x
        simp only
        rw [if_pos (.inl (by simp at this; omega))]
    · rw [if_neg h46, if_neg (by omega)]
  · rw [List.drop_of_length_le (by rw [List.length_drop]; omega)]
    simp only [scanP]
    rw [if_pos (.inr (by omega))]
theorem point_whole (neg : Bool) (l : List Int) (hlt : dlen l < l.length) (hp : l.getD (dlen l) 0 = 46) (K : Nat) (hK : dlen (l.drop (dlen l + 1)) = K) (h1 : dlen l + 1 + K = l.length) (h0 : 0 < dlen l + K) :
    restS neg l = if 214748364799999 < aheadN l (dlen l) * 100000 + fracN (l.drop (dlen l + 1)) K then (0, false, 5) else (sgZ neg (aheadN l (dlen l) * 100000 + fracN (l.drop (dlen l + 1)) K), false, 0) := by
  have e : l.drop (dlen l) = 46 :: l.drop (dlen l + 1) := by rw [dlen_drop l hlt, hp]
  obtain ⟨m, hmm⟩ : ∃ m, l.drop (dlen l + 1) = m := ⟨_, rfl⟩
  rw [hmm] at hK e ⊢
  have hml : m.length = l.length - (dlen l + 1) := by rw [← hmm, List.length_drop]
  have hbd := fracN_bd m K (by omega)
  have hub := unitA_bd K
  have hf := fracN_K m (by omega)
  rw [hK] at hf
  have hbd5 : fracN m K ≤ 99999 := by
    have hok : ∀ z ∈ m, 48 ≤ z ∧ z ≤ 57 := fun z hz => by
      obtain ⟨i, hi, rfl⟩ := List.getElem_of_mem hz
      have := dlen_in m i (by omega)
      simpa [List.getD, hi] using this
    rw [hf]
    exact (fracK_bd5 m hok 5 (by omega)).2
  rw [restS, scan_dig, e, scanP, if_pos rfl, scan_dig, hK, List.drop_of_length_le (show m.length ≤ K by omega)]
  simp only [scanP]
  rw [if_neg (by omega), whole_sat l 0 (by omega) (by omega) (.inr ⟨_, e⟩), e, ← ahead_sat]
  by_cases hb : aheadN l (dlen l) ≤ 2147483647
  · rw [if_pos hb, if_neg (by omega)]
    show (if (0 + 1 = 0) then _ else (sgZ neg (aheadN l (dlen l) * 100000 + fracK (List.drop 1 (46 :: m)) 5), false, 0)) = _
    rw [if_neg (by omega), hf]
    rfl
  · rw [if_neg hb, if_pos (by omega)]
end
end Go.Proofs.Ytpomkhcobpihmaa
