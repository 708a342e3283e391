/- The project's own reader of blocks (package inflate): its state; number, length, distance, put, again. -/
import Derived.Test.YtebbakfjjjamkaaDoorPSym
import Derived.Test.YtebbakfjjjamkaaDoorRef4CodedC
namespace Go.Proofs.YtebbakfjjjamkaaDoor
open Go.RowKit
set_option linter.unusedVariables false
set_option maxRecDepth 100000

/-- The reader in block kr: its bits in kb, kc; the bytes that came, in a row of its own; no block of ts. -/
structure RS (w : World) (kr kb kc : Nat) (ts : Nat → Prop) (A : Option Addr) (n c : Nat) (zs : List Int) (p : Nat) (v : Value) (out : List Int) (most : Nat) (fx : Value) : Prop where
  pb : PB w kb kc A n c zs p
  rd : w.heap[kr]? = some (.cells #[.pointer (some ⟨kb, 0, none⟩), v, .int .i64 most, fx] 50 (0, 0))
  rb : kr ≠ kb
  rc : kr ≠ kc
  row : Mine w 0 v out.length out
  own : ∀ b, v.ownBlock = some b → ¬ ts b ∧ b ≠ kr ∧ b ≠ kb ∧ b ≠ kc
  tr : ¬ ts kr
  tb' : ¬ ts kb
  tc : ¬ ts kc
  tb : ∀ i, ts i → i < w.heap.size
  lm : out.length ≤ most
section
variable {w w' : World} {kr kb kc n c p most : Nat} {A : Option Addr} {zs out : List Int} {v fx : Value} {ts : Nat → Prop}
theorem RS.lt (h : RS w kr kb kc ts A n c zs p v out most fx) : kr < w.heap.size := by
  rcases Nat.lt_or_ge kr w.heap.size with hlt | hge
  · exact hlt
  · have := h.rd; rw [Array.getElem?_eq_none hge] at this; cases this
theorem RS.c0 (h : RS w kr kb kc ts A n c zs p v out most fx) : w.cell? ⟨kr, 0, none⟩ = some (.pointer (some ⟨kb, 0, none⟩)) := by rw [cell_of_row w kr 0 _ 50 (0, 0) h.rd]; rfl
theorem RS.c1 (h : RS w kr kb kc ts A n c zs p v out most fx) : w.cell? ⟨kr, 1, none⟩ = some v := by rw [cell_of_row w kr 1 _ 50 (0, 0) h.rd]; rfl
theorem RS.c2 (h : RS w kr kb kc ts A n c zs p v out most fx) : w.cell? ⟨kr, 2, none⟩ = some (.int .i64 most) := by rw [cell_of_row w kr 2 _ 50 (0, 0) h.rd]; rfl
theorem RS.c3 (h : RS w kr kb kc ts A n c zs p v out most fx) : w.cell? ⟨kr, 3, none⟩ = some fx := by rw [cell_of_row w kr 3 _ 50 (0, 0) h.rd]; rfl
theorem RS.fr (h : RS w kr kb kc ts A n c zs p v out most fx) (i : Nat) : w.frozen? ⟨kr, i, none⟩ = false := by
  have := h.rd
  simp [World.frozen?, this]
theorem RS.ltb (h : RS w kr kb kc ts A n c zs p v out most fx) : kb < w.heap.size := h.pb.lt
theorem RS.ltc (h : RS w kr kb kc ts A n c zs p v out most fx) : kc < w.heap.size := h.pb.cur.lt
theorem RS.own_lt (h : RS w kr kb kc ts A n c zs p v out most fx) (b : Nat) (hb : v.ownBlock = some b) : b < w.heap.size := by
  rcases h.row.own.2 with ⟨rfl, _⟩ | ⟨b', cap, cur, rfl, _, hh, _⟩
  · cases hb
  · injection hb with hb
    dsimp only at hb
    subst hb
    rcases Nat.lt_or_ge b' w.heap.size with hlt | hge
    · exact hlt
    · rw [Array.getElem?_eq_none hge] at hh; cases hh
/-- The bits alone went on (new memory let in). -/
theorem RS.read (h : RS w kr kb kc ts A n c zs p v out most fx) (ho : Only2 kb kc w w') {p' : Nat} (hb : PB w' kb kc A n c zs p') : RS w' kr kb kc ts A n c zs p' v out most fx :=
  ⟨hb, (ho.block kr h.lt h.rb h.rc).trans h.rd, h.rb, h.rc, h.row.same (fun b hv hlt => ho.block b hlt (h.own b hv).2.2.1 (h.own b hv).2.2.2), h.own, h.tr, h.tb', h.tc, fun i hi => Nat.lt_of_lt_of_le (h.tb i hi) ho.size, h.lm⟩
theorem Only2.keeps (ho : Only2 kb kc w w') (h : RS w kr kb kc ts A n c zs p v out most fx) : Keeps ts w w' :=
  ⟨ho.os, ho.tape, ho.output, ho.size, fun i hi => ho.block i (h.tb i hi) (fun e => h.tb' (e ▸ hi)) (fun e => h.tc (e ▸ hi))⟩
theorem RS.drewN (h : RS w kr kb kc ts A n c zs p v out most fx) (k : Nat) : RS (w.drewN k) kr kb kc ts A n c zs p v out most fx := h.read ((Only2.refl _ _ _).drewN k) (h.pb.drewN k)
theorem RS.more (h : RS w kr kb kc ts A n c zs p v out most fx) (hb : Below w.heap.size w w') : RS w' kr kb kc ts A n c zs p v out most fx :=
  h.read (Only2.of_below hb _ _) (h.pb.below hb h.ltb h.ltc)
/-- Blocks made since may be kept, too. -/
theorem RS.and (h : RS w kr kb kc ts A n c zs p v out most fx) (us : Nat → Prop) (hsz : ∀ i, us i → i < w.heap.size) (hu : ∀ i, us i → ts i ∨ (i ≠ kr ∧ i ≠ kb ∧ i ≠ kc ∧ v.ownBlock ≠ some i)) : RS w kr kb kc us A n c zs p v out most fx :=
  ⟨h.pb, h.rd, h.rb, h.rc, h.row, fun b hb => ⟨fun hub => by
    rcases hu b hub with h1 | h1
    · exact (h.own b hb).1 h1
    · exact h1.2.2.2 hb, (h.own b hb).2⟩,
   fun hk => by
    rcases hu _ hk with h1 | h1
    · exact h.tr h1
    · exact h1.1 rfl,
   fun hk => by
    rcases hu _ hk with h1 | h1
    · exact h.tb' h1
    · exact h1.2.1 rfl,
   fun hk => by
    rcases hu _ hk with h1 | h1
    · exact h.tc h1
    · exact h1.2.2.1 rfl, hsz, h.lm⟩
theorem RS.sub {us : Nat → Prop} (h : RS w kr kb kc us A n c zs p v out most fx) (hs : ∀ i, ts i → us i) : RS w kr kb kc ts A n c zs p v out most fx :=
  h.and ts (fun i hi => h.tb i (hs i hi)) fun i hi => .inl (hs i hi)
theorem RS.ble (h : RS w kr kb kc ts A n c zs p v out most fx) {B : Nat} (hB : ∀ i, i < B → ts i) : B ≤ kb ∧ B ≤ kc ∧ B ≤ kr ∧ B ≤ w.heap.size := by
  refine ⟨Nat.le_of_not_lt fun hlt => h.tb' (hB _ hlt), Nat.le_of_not_lt fun hlt => h.tc (hB _ hlt), Nat.le_of_not_lt fun hlt => h.tr (hB _ hlt), ?_⟩
  have h1 : B ≤ kr := Nat.le_of_not_lt fun hlt => h.tr (hB _ hlt)
  have := h.lt
  omega
/-- A row that grew, put back into the reader. -/
theorem RS.grown {w6 : World} {v6 : Value} {out6 : List Int} (h : RS w kr kb kc ts A n c zs p v out most fx) (hrow : Mine w6 0 v6 out6.length out6)
    (hblk : ∀ i, i < w.heap.size → v.ownBlock ≠ some i → w6.heap[i]? = w.heap[i]?) (hos : w6.os = w.os) (htp : w6.tape = w.tape) (hou : w6.output = w.output) (hsz : w.heap.size ≤ w6.heap.size) (hown : ∀ b, v6.ownBlock = some b → v.ownBlock = some b ∨ w.heap.size ≤ b) (hl6 : out6.length ≤ most) :
    RS (w6.setCell ⟨kr, 1, none⟩ v6) kr kb kc ts A n c zs p v6 out6 most fx ∧ Keeps ts w (w6.setCell ⟨kr, 1, none⟩ v6) := by
  have hk := h.lt
  have hg := h.ltb
  have hgc := h.ltc
  have hset : ∀ i, i ≠ kr → (w6.setCell ⟨kr, 1, none⟩ v6).heap[i]? = w6.heap[i]? := fun i hi => Below.heap_setCell w6 ⟨kr, 1, none⟩ v6 i hi
  have hb6 : ∀ b, v6.ownBlock = some b → ¬ ts b ∧ b ≠ kr ∧ b ≠ kb ∧ b ≠ kc := fun b hb => by
    rcases hown b hb with h1 | h1
    · exact h.own b h1
    · exact ⟨fun ht => by have := h.tb b ht; omega, by omega, by omega, by omega⟩
  have hno : ∀ i, i ≠ kr → i < w.heap.size → v.ownBlock ≠ some i → (w6.setCell ⟨kr, 1, none⟩ v6).heap[i]? = w.heap[i]? := fun i h1 h2 h3 => (hset i h1).trans (hblk i h2 h3)
  refine ⟨⟨?_, ?_, h.rb, h.rc, ?_, hb6, h.tr, h.tb', h.tc, fun i hi => ?_, hl6⟩, ?_⟩
  · exact h.pb.same (hno kb (fun e => h.rb e.symm) hg (fun e => (h.own kb e).2.2.1 rfl)) (hno kc (fun e => h.rc e.symm) hgc (fun e => (h.own kc e).2.2.2 rfl))
  · have h6 : w6.heap[kr]? = _ := (hblk kr hk (fun e => (h.own kr e).2.1 rfl)).trans h.rd
    simp [World.setCell, Array.getElem?_modify, h6]
  · exact hrow.same fun b hb _ => hset b (hb6 b hb).2.1
  · have := h.tb i hi
    simp [World.setCell]; omega
  · exact ⟨hos, htp, hou, by simpa [World.setCell] using hsz, fun i hi => hno i (fun e => h.tr (e ▸ hi)) (h.tb i hi) (fun e => (h.own i e).1 hi)⟩
end

/-- What number answers, where the reader stands then, its error. -/
def numS (zs : List Int) (p : Nat) (least : Int) (m : Nat) : Int × Nat × Int := if p + m ≤ 8 * zs.length then (least + bitsZ zs p m, p + m, 0) else (0, p, 2)
theorem pnumC (kr kb kc n c p B most m : Nat) (least : Int) (A : Option Addr) (v fx : Value) (out zs : List Int) (ts : Nat → Prop) (w : World) (h : RS w kr kb kc ts A n c zs p v out most fx) (hb : Byt w B A n c zs) (hB : ∀ i, i < B → ts i) (hn : n ≤ 1000000) (hm : m ≤ 16) (l0 : 0 ≤ least) (l1 : least ≤ 1000000)
    (x : Int) (p' : Nat) (e' : Int) (hs : numS zs p least m = (x, p', e')) :
    Calls Tryd.prog 74 #[.pointer (some ⟨kr, 0, none⟩), .int .i64 least, .int .i64 m] w fun r w' => r = .returned (.tuple #[.int .i64 x, .int .i64 e']) ∧ RS w' kr kb kc ts A n c zs p' v out most fx ∧ Only2 kb kc w w' := by
  have hbl := h.ble hB
  have HT := Lib.hid (ptakeC kb kc n c p B m A zs w h.pb hb hbl.1 hbl.2.1 hn)
  have H := Lib.hid h
  have h0 := h.c0
  have hpb := h.pb
  unfold numS at hs
  unfold ptakeV ptakeP at HT
  by_cases hlt : p + m ≤ 8 * zs.length
  · rw [if_pos hlt] at hs
    cases hs
    rw [if_pos ⟨by omega, by omega, by omega⟩, if_pos ⟨by omega, by omega, by omega⟩, Int.toNat_natCast] at HT
    have hbd := bitsZ_bd zs p m
    have hp16 := pow_le16 m hm
    obtain ⟨y, hy⟩ : ∃ y, bitsZ zs p m = y := ⟨_, rfl⟩
    rw [hy] at HT hbd ⊢
    have hy0 : ¬ y < 0 := by omega
    have e1 : IntKind.i64.wrap (least + y) = least + y := IntWalk.i64_in _ (by omega)
    clear h hb hy hbd hp16 hpb hbl
    go_enter Tryd.func74, Tryd.ntmps74
    go_wp2_with (go_at_call 46; refine HT.out.mono ?_; rintro r w2 ⟨rfl, hb2, ho2⟩; have HB2 := Lib.hid hb2; have HO2 := Lib.hid ho2; clear hb2 ho2)
    go_ret2
    exact ⟨rfl, H.out.read HO2.out HB2.out, HO2.out⟩
  · rw [if_neg hlt] at hs
    cases hs
    rw [if_neg (by omega), if_neg (by omega)] at HT
    clear h hb hpb hbl
    go_enter Tryd.func74, Tryd.ntmps74
    go_wp2_with (go_at_call 46; refine HT.out.mono ?_; rintro r w2 ⟨rfl, hb2, ho2⟩; have HB2 := Lib.hid hb2; have HO2 := Lib.hid ho2; clear hb2 ho2)
    go_ret2
    exact ⟨rfl, H.out.read HO2.out HB2.out, HO2.out⟩

/-- What length answers of the i-th symbol of lengths. -/
def plenS (zs : List Int) (p i : Nat) : Int × Nat × Int :=
  if i < 8 then (3 + (i : Int), p, 0)
  else if i < 28 then numS zs p (3 + (4 + (i : Int) % 4) * 2 ^ (i / 4 - 1)) (i / 4 - 1)
  else if i = 28 then (258, p, 0)
  else (0, p, 4)
theorem plenB : ∀ i : Fin 28, 8 ≤ i.val → (4 + (i.val : Int) % 4) * 2 ^ (i.val / 4 - 1) ≤ 300 ∧ 0 ≤ (4 + (i.val : Int) % 4) * 2 ^ (i.val / 4 - 1) ∧ i.val / 4 - 1 ≤ 5 ∧ 1 ≤ i.val / 4 := by decide +kernel
theorem plenC (kr kb kc n c p B most i : Nat) (A : Option Addr) (v fx : Value) (out zs : List Int) (ts : Nat → Prop) (w : World) (h : RS w kr kb kc ts A n c zs p v out most fx) (hb : Byt w B A n c zs) (hB : ∀ i, i < B → ts i) (hn : n ≤ 1000000) (hi : i ≤ 100)
    (x : Int) (p' : Nat) (e' : Int) (hs : plenS zs p i = (x, p', e')) :
    Calls Tryd.prog 72 #[.pointer (some ⟨kr, 0, none⟩), .int .i64 i] w fun r w' => r = .returned (.tuple #[.int .i64 x, .int .i64 e']) ∧ RS w' kr kb kc ts A n c zs p' v out most fx ∧ Only2 kb kc w w' := by
  have H := Lib.hid h
  unfold plenS at hs
  by_cases h8 : i < 8
  · rw [if_pos h8] at hs
    cases hs
    have e1 : IntKind.i64.wrap (3 + (i : Int)) = 3 + i := IntWalk.i64_in _ (by omega)
    have hi8 : (i : Int) < 8 := by omega
    clear h hb
    go_enter Tryd.func72, Tryd.ntmps72
    go_wp2
    go_ret2
    exact ⟨rfl, H.out, Only2.refl _ _ _⟩
  rw [if_neg h8] at hs
  by_cases h28 : i < 28
  · rw [if_pos h28] at hs
    have hbd := plenB ⟨i, h28⟩ (show 8 ≤ i by omega)
    dsimp only at hbd
    obtain ⟨m, hm⟩ : ∃ m, i / 4 - 1 = m := ⟨_, rfl⟩
    have hm2 : (i : Int) / 4 - 1 = (m : Int) := by omega
    rw [hm] at hs hbd
    obtain ⟨r, hr⟩ : ∃ r : Nat, (i : Int) % 4 = r := ⟨((i : Int) % 4).toNat, by omega⟩
    rw [hr] at hs hbd
    obtain ⟨L, hL⟩ : ∃ L, (4 + (r : Int)) * 2 ^ m = L := ⟨_, rfl⟩
    rw [hL] at hs hbd
    have HNU := Lib.hid (pnumC kr kb kc n c p B most m (3 + L) A v fx out zs ts w h hb hB hn (by omega) (by omega) (by omega) x p' e' hs)
    have e1 : IntKind.i64.wrap ((i : Int) / 4 - 1) = m := by rw [hm2]; exact IntWalk.i64_in _ (by omega)
    have e2 : IntKind.i64.wrap (4 + (r : Int)) = 4 + r := IntWalk.i64_in _ (by omega)
    have e3 : IntKind.i64.wrap L = L := IntWalk.i64_in _ (by omega)
    have e4 : IntKind.i64.wrap (3 + L) = 3 + L := IntWalk.i64_in _ (by omega)
    have hi8 : ¬ (i : Int) < 8 := by omega
    have hi28 : (i : Int) < 28 := by omega
    have hm64 : (m : Int) < 64 := by omega
    clear h hb hs hbd
    go_enter Tryd.func72, Tryd.ntmps72
    go_wp2_with (go_at_call 74; refine HNU.out.mono ?_; rintro r w2 ⟨rfl, hb2, ho2⟩; have HB2 := Lib.hid hb2; have HO2 := Lib.hid ho2; clear hb2 ho2)
    go_ret2
    exact ⟨rfl, HB2.out, HO2.out⟩
  rw [if_neg h28] at hs
  have hi28 : ¬ (i : Int) < 28 := by omega
  have hi8 : ¬ (i : Int) < 8 := by omega
  by_cases h29 : i = 28
  · rw [if_pos h29] at hs
    cases hs
    subst h29
    clear h hb
    go_enter Tryd.func72, Tryd.ntmps72
    go_wp2
    go_ret2
    exact ⟨rfl, H.out, Only2.refl _ _ _⟩
  · rw [if_neg h29] at hs
    cases hs
    have hi29 : ¬ (i : Int) = 28 := by omega
    have hi29b : ((i : Int) == 28) = false := beq_eq_false_iff_ne.2 hi29
    clear h hb
    go_enter Tryd.func72, Tryd.ntmps72
    go_wp2
    go_ret2
    exact ⟨rfl, H.out, Only2.refl _ _ _⟩

/-- What distance answers. -/
def pdisT (zs : List Int) (p i : Nat) : Int × Nat × Int :=
  if i < 4 then (1 + (i : Int), p, 0)
  else if i < 30 then numS zs p (1 + (2 + (i : Int) % 2) * 2 ^ (i / 2 - 1)) (i / 2 - 1)
  else (0, p, 4)
def pdisS (zs d : List Int) (p : Nat) : Int × Nat × Int :=
  if ¬ (symR zs d (codesS d) 15 1 0 p).2.2 = 0 then (0, (symR zs d (codesS d) 15 1 0 p).2)
  else pdisT zs (symR zs d (codesS d) 15 1 0 p).2.1 (symR zs d (codesS d) 15 1 0 p).1.toNat
theorem pdisB : ∀ i : Fin 30, 4 ≤ i.val → (2 + (i.val : Int) % 2) * 2 ^ (i.val / 2 - 1) ≤ 40000 ∧ 0 ≤ (2 + (i.val : Int) % 2) * 2 ^ (i.val / 2 - 1) ∧ i.val / 2 - 1 ≤ 13 ∧ 1 ≤ i.val / 2 := by decide +kernel
theorem pdisC (kr kb kc n c p B most hd : Nat) (A : Option Addr) (v fx : Value) (out zs d : List Int) (ts : Nat → Prop) (w : World) (h : RS w kr kb kc ts A n c zs p v out most fx) (hb : Byt w B A n c zs) (hB : ∀ i, i < B → ts i) (hn : n ≤ 1000000) (hcb : CB w hd d) (htd : ts hd)
    (x : Int) (p' : Nat) (e' : Int) (hs : pdisS zs d p = (x, p', e')) :
    Calls Tryd.prog 73 #[.pointer (some ⟨kr, 0, none⟩), .pointer (some ⟨hd, 0, none⟩)] w fun r w' => r = .returned (.tuple #[.int .i64 x, .int .i64 e']) ∧ RS w' kr kb kc ts A n c zs p' v out most fx ∧ Only2 kb kc w w' := by
  have H := Lib.hid h
  have h0 := h.c0
  have hbl := h.ble hB
  have h1 : hd ≠ kb := fun e => h.tb' (e ▸ htd)
  have h2 : hd ≠ kc := fun e => h.tc (e ▸ htd)
  have hv := symR_v zs d (codesS d) 15 1 0 p
  have hdl := hcb.len
  obtain ⟨s, q, e, hsy⟩ : ∃ s q e, symR zs d (codesS d) 15 1 0 p = (s, q, e) := ⟨_, _, _, rfl⟩
  have HSY := Lib.hid (psym kb kc n c p B hd A zs d w h.pb hb hbl.1 hbl.2.1 hn hcb h1 h2 s q e hsy)
  have HBY := Lib.hid (fun W (hW : Only2 kb kc w W) => hb.only2 hW hbl.1 hbl.2.1 hbl.2.2.2)
  unfold pdisS at hs
  rw [hsy] at hs hv
  dsimp only at hs hv
  clear h hb hsy hcb htd h1 h2 hbl
  by_cases he : e = 0
  · subst he
    rw [if_neg (by decide)] at hs
    obtain ⟨i, rfl⟩ : ∃ i : Nat, s = i := ⟨s.toNat, by omega⟩
    rw [Int.toNat_natCast] at hs
    unfold pdisT at hs
    by_cases h4 : i < 4
    · rw [if_pos h4] at hs
      cases hs
      have e1 : IntKind.i64.wrap (1 + (i : Int)) = 1 + i := IntWalk.i64_in _ (by omega)
      have hi4 : (i : Int) < 4 := by omega
      clear hv
      go_enter Tryd.func73, Tryd.ntmps73
      go_wp2_with (go_at_call 63; refine HSY.out.mono ?_; rintro r w2 ⟨rfl, hb2, ho2⟩; have HB2 := Lib.hid hb2; have HO2 := Lib.hid ho2; clear hb2 ho2)
      go_ret2
      exact ⟨rfl, H.out.read HO2.out HB2.out, HO2.out⟩
    rw [if_neg h4] at hs
    have hi4 : ¬ (i : Int) < 4 := by omega
    by_cases h30 : i < 30
    · rw [if_pos h30] at hs
      have hbd := pdisB ⟨i, h30⟩ (show 4 ≤ i by omega)
      dsimp only at hbd
      obtain ⟨m, hm⟩ : ∃ m, i / 2 - 1 = m := ⟨_, rfl⟩
      have hm2 : (i : Int) / 2 - 1 = (m : Int) := by omega
      rw [hm] at hs hbd
      obtain ⟨r, hr⟩ : ∃ r : Nat, (i : Int) % 2 = r := ⟨((i : Int) % 2).toNat, by omega⟩
      rw [hr] at hs hbd
      obtain ⟨L, hL⟩ : ∃ L, (2 + (r : Int)) * 2 ^ m = L := ⟨_, rfl⟩
      rw [hL] at hs hbd
      have HNU := Lib.hid (fun W (hW : RS W kr kb kc ts A n c zs q v out most fx) (hbW : Byt W B A n c zs) => pnumC kr kb kc n c q B most m (1 + L) A v fx out zs ts W hW hbW hB hn (by omega) (by omega) (by omega) x p' e' hs)
      have e1 : IntKind.i64.wrap ((i : Int) / 2 - 1) = m := by rw [hm2]; exact IntWalk.i64_in _ (by omega)
      have e2 : IntKind.i64.wrap (2 + (r : Int)) = 2 + r := IntWalk.i64_in _ (by omega)
      have e3 : IntKind.i64.wrap L = L := IntWalk.i64_in _ (by omega)
      have e4 : IntKind.i64.wrap (1 + L) = 1 + L := IntWalk.i64_in _ (by omega)
      have hi30 : (i : Int) < 30 := by omega
      have hm64 : (m : Int) < 64 := by omega
      clear hs hbd hv
      go_enter Tryd.func73, Tryd.ntmps73
      go_wp2_with (first
        | (go_at_call 63; refine HSY.out.mono ?_; rintro r w2 ⟨rfl, hb2, ho2⟩; have HB2 := Lib.hid hb2; have HO2 := Lib.hid ho2; clear hb2 ho2)
        | (go_at_call 74; refine (HNU.out _ (H.out.read HO2.out HB2.out) (HBY.out _ HO2.out)).mono ?_; rintro r w3 ⟨rfl, hb3, ho3⟩; have HB3 := Lib.hid hb3; have HO3 := Lib.hid (HO2.out.trans ho3); clear hb3 ho3))
      go_ret2
      exact ⟨rfl, HB3.out, HO3.out⟩
    · rw [if_neg h30] at hs
      cases hs
      have hi30 : ¬ (i : Int) < 30 := by omega
      clear hv
      go_enter Tryd.func73, Tryd.ntmps73
      go_wp2_with (go_at_call 63; refine HSY.out.mono ?_; rintro r w2 ⟨rfl, hb2, ho2⟩; have HB2 := Lib.hid hb2; have HO2 := Lib.hid ho2; clear hb2 ho2)
      go_ret2
      exact ⟨rfl, H.out.read HO2.out HB2.out, HO2.out⟩
  · rw [if_pos he] at hs
    have hz : (e == 0) = false := beq_eq_false_iff_ne.2 he
    cases hs
    clear hv he
    go_enter Tryd.func73, Tryd.ntmps73
    go_wp2_with (go_at_call 63; refine HSY.out.mono ?_; rintro r w2 ⟨rfl, hb2, ho2⟩; have HB2 := Lib.hid hb2; have HO2 := Lib.hid ho2; clear hb2 ho2)
    go_ret2
    exact ⟨rfl, H.out.read HO2.out HB2.out, HO2.out⟩
end Go.Proofs.YtebbakfjjjamkaaDoor
