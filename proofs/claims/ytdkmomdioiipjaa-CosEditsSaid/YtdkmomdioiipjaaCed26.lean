/- Contracts of functions that the law calls, and what they lean on (a part). -/
import Derived.Test.YtdkmomdioiipjaaCed15
import Derived.Test.YtdkmomdioiipjaaCed25
namespace Go.Proofs.Ytdkmomdioiipjaa
section
open Go.RowKit Go.Sort
set_option linter.unusedVariables false
set_option maxRecDepth 100000
def anyK (ks : List ByteArray) (s : ByteArray) : Bool := ks.any (fun t => decide (t = s))
theorem anyK_snoc (ks : List ByteArray) (t : ByteArray) : (fun s => anyK ks s || decide (t = s)) = anyK (ks ++ [t]) := by
  funext s
  unfold anyK
  rw [List.any_append]
  simp
/-- A slice of strings. -/
def KeysV (w : World) (A : Option Addr) (ks : List ByteArray) : Prop := 0 < ks.length → ∃ g o, A = some ⟨g, o, none⟩ ∧ g < w.heap.size ∧ ∀ i t, ks[i]? = some t → w.cell? ⟨g, o + i, none⟩ = some (.string t)
theorem KeysV.below {w w' : World} {A : Option Addr} {ks : List ByteArray} (h : KeysV w A ks) (hb : Below w.heap.size w w') : KeysV w' A ks := fun h0 => by
  obtain ⟨g, o, e, hg, hc⟩ := h h0
  exact ⟨g, o, e, Nat.lt_of_lt_of_le hg hb.size, fun i t ht => (World.cell?_of_block (a := ⟨g, o + i, none⟩) (hb.block g hg)).trans (hc i t ht)⟩
def dropP (ks : List ByteArray) (rs : List Rw) (i : Nat) : Bool := match rs[i]? with
  | some r => !(anyK ks r.s)
  | none => false
theorem keepL_filter (ks : List ByteArray) (all : List Rw) : ∀ (rs : List Rw) (i : Nat), all.drop i = rs → keepL (dropP ks all) i rs = rs.filter (fun r => !(anyK ks r.s))
  | [], i, h => rfl
  | r :: rs, i, h => by
    have h1 : all[i]? = some r := by
      have := congrArg (·[0]?) h
      simpa [List.getElem?_drop] using this
    have h2 : all.drop (i + 1) = rs := by rw [← List.drop_drop, h]; rfl
    rw [keepL, keepL_filter ks all rs (i + 1) h2, List.filter_cons]
    unfold dropP
    rw [h1]
def DropI (Bb Bm n : Nat) (F : ByteArray → Bool) (W : World) : Prop := W.heap[Bb]? = some (.cells #[.map (some Bm)] 87 (0, 0)) ∧ SetS W Bm n F
set_option maxHeartbeats 2000000 in
theorem dropKeep (ks : List ByteArray) (rs : List Rw) (Bb Bm n : Nat) (hsz : ∀ r ∈ rs, r.s.size ≤ maxLen) : KeepOk 77 #[.pointer (some ⟨Bb, 0, none⟩)] rs (dropP ks rs) (fun _ W => DropI Bb Bm n (anyK ks) W) Bb := by
  intro i r W hr hI
  obtain ⟨h1, h2⟩ := hI
  have hrs := hsz r (List.mem_of_getElem? hr)
  have hp : dropP ks rs i = !(anyK ks r.s) := by unfold dropP; rw [hr]
  rw [hp]
  show Calls Try.prog 77 #[.agg #[.string r.s, .int .i64 r.k, .int .i64 r.n, .slice r.A2 r.m2 r.c2, .slice r.A3 r.m3 r.c3, .slice r.A4 r.m4 r.c4], .pointer (some ⟨Bb, 0, none⟩)] W _
  have hb1 := (Below.refl W.heap.size W).alloc (Nat.le_refl _) (.cells #[.string r.s, .int .i64 r.k, .int .i64 r.n, .slice r.A2 r.m2 r.c2, .slice r.A3 r.m3 r.c3, .slice r.A4 r.m4 r.c4] 32)
  have hn1 := heap_alloc_new W (.cells #[.string r.s, .int .i64 r.k, .int .i64 r.n, .slice r.A2 r.m2 r.c2, .slice r.A3 r.m3 r.c3, .slice r.A4 r.m4 r.c4] 32)
  obtain ⟨W1, hW1⟩ : ∃ W1, W.alloc (.cells #[.string r.s, .int .i64 r.k, .int .i64 r.n, .slice r.A2 r.m2 r.c2, .slice r.A3 r.m3 r.c3, .slice r.A4 r.m4 r.c4] 32) = W1 := ⟨_, rfl⟩
  rw [hW1] at hb1 hn1
  have c0 := cell_of_row W1 W.heap.size 0 _ _ (0, 0) hn1
  have k1 := (hb1.block Bb (row_lt _ _ _ h1)).trans h1
  have kb := cell_of_row W1 Bb 0 _ _ (0, 0) k1
  have hs1 := h2.keep (w' := W1) (hb1.block Bm h2.lt)
  have hlk := hs1.look r.s hrs
  have hb2 := hb1.trans (((Below.refl W1.heap.size W1).alloc (Nat.le_refl _) (.cells #[] 88)).mono hb1.size)
  have HFIN := Lib.hid (show DropI Bb Bm n (anyK ks) (W1.alloc (.cells #[] 88)) ∧ Only Bb W (W1.alloc (.cells #[] 88)) from ⟨⟨(hb2.block Bb (row_lt _ _ _ h1)).trans h1, h2.keep (hb2.block Bm h2.lt)⟩, Only.of_below hb2 Bb⟩)
  have HW1 := Lib.hid hW1
  obtain ⟨V, hV⟩ : ∃ V, anyK ks r.s = V := ⟨_, rfl⟩
  rw [hV] at hlk ⊢
  clear hb1 hn1 hW1 h1 h2 hs1 hb2 hV hp hrs
  go_enter Try.func77, Try.ntmps77
  go_upto_region 1 with fail
  rw [HW1.out]
  go_wp2_with (first
    | (at_lookup; refine wpList_lookup_run rfl _ _ _ rfl _ _ _ rfl rfl hlk ?_))
  go_ret
  exact ⟨rfl, HFIN.out⟩
/-- without. -/
def WtP (w : World) (L : List Rw) (e : Ending) (w' : World) : Prop := ∃ A c B, e = .returned (.slice A L.length c) ∧ w.heap.size ≤ B ∧ w'.ownsRow B 32 6 (.slice A L.length c) L.length (flatR L) ∧ Below w.heap.size w w'
set_option maxHeartbeats 4000000 in
theorem withoutC (rs : List Rw) (A : Option Addr) (c : Nat) (ks : List ByteArray) (AK : Option Addr) (cK : Nat) (w : World) (hA : RowsV w A rs) (hcap : rs.length ≤ c) (hlen : rs.length ≤ 1000000000) (hK : KeysV w AK ks) (hkl : ks.length ≤ 1000000) (hks : ∀ t ∈ ks, t.size ≤ maxLen) (hrs : ∀ r ∈ rs, r.s.size ≤ maxLen) :
    Calls Try.prog 54 #[.slice A rs.length c, .slice AK ks.length cK] w (WtP w (rs.filter (fun r => !(anyK ks r.s)))) := by
  obtain ⟨N, hN⟩ : ∃ N, ks.length = N := ⟨_, rfl⟩
  have HN := Lib.hid hN
  obtain ⟨M, hM⟩ : ∃ M, rs.length = M := ⟨_, rfl⟩
  have HM := Lib.hid hM
  have hmm : ∀ W, (Instr.makeMap 87 (some (.int .i64 N))).run Try.prog W = .ok (.map (some W.heap.size)) (W.alloc (.map #[] 0)) := fun W => by
    simp [Instr.makeMap, run_underlying Try.underlying87, asInt, asIntOf, Result.andThen]
  have hb1 := (Below.refl w.heap.size w).alloc (Nat.le_refl _) (.map #[] 0)
  have hm1 := SetS.made w
  obtain ⟨W1, hW1⟩ : ∃ W1, w.alloc (.map #[] 0) = W1 := ⟨_, rfl⟩
  rw [hW1] at hb1 hm1
  have hs1 : W1.heap.size = w.heap.size + 1 := by rw [← hW1]; simp
  have hb2 := hb1.trans (((Below.refl W1.heap.size W1).alloc (Nat.le_refl _) (.cells #[.map (some w.heap.size)] 87)).mono hb1.size)
  have hn2 := heap_alloc_new W1 (.cells #[.map (some w.heap.size)] 87)
  have hm2 := hm1.keep (w' := W1.alloc (.cells #[.map (some w.heap.size)] 87)) (((Below.refl W1.heap.size W1).alloc (Nat.le_refl _) _).block _ hm1.lt)
  obtain ⟨W2, hW2⟩ : ∃ W2, W1.alloc (.cells #[.map (some w.heap.size)] 87) = W2 := ⟨_, rfl⟩
  rw [hW2] at hb2 hn2 hm2
  rw [hs1] at hn2
  have HB2 := Lib.hid hb2
  have HN2 := Lib.hid hn2
  have HM2 := Lib.hid hm2
  have HW1 := Lib.hid hW1
  have HW2 := Lib.hid hW2
  have HA := Lib.hid hA
  have HK := Lib.hid hK
  have HKS := Lib.hid hks
  have HRS := Lib.hid hrs
  have heg : ∀ args W, (callFunc 77 args).run Try.prog W = .ok (.enter 77 args) W := enters_of Try.func77 (by kernel_rfl) rfl
  have HEG := Lib.hid heg
  have HCL := Lib.hid (show rs.length ≤ c ∧ rs.length ≤ 1000000000 ∧ N ≤ 1000000 from ⟨hcap, hlen, by omega⟩)
  have hle2 : w.heap.size + 2 ≤ W2.heap.size := by have := row_lt _ _ _ hn2; omega
  have HLE2 := Lib.hid hle2
  rw [hN, hM]
  clear hb1 hm1 hW1 hs1 hb2 hn2 hm2 hW2 hA hK hks hrs heg hcap hlen hkl hN hM hle2
  go_enter Try.func54, Try.ntmps54
  go_upto_region 3 with fail
  rw [HW1.out, HW2.out]
  go_loopw [7, 13] (fun s7 s13 wr => ∃ (i n : Nat), s13 = .int .i64 i ∧ i ≤ N ∧ n ≤ i ∧ Hid (wr.heap[w.heap.size + 1]? = some (.cells #[.map (some w.heap.size)] 87 (0, 0))) ∧ Hid (SetS wr w.heap.size n (anyK (ks.take i))) ∧ Hid (Only w.heap.size W2 wr)) (fun _ s13 _ => N - (intOf s13).toNat)
  case atStart => exact ⟨0, 0, rfl, Nat.zero_le _, Nat.le_refl _, HN2, HM2, Lib.hid (Only.refl _ _)⟩
  case round =>
    obtain ⟨i, n, rfl, hi, hni, HBX, HST, HON⟩ := hrel
    have HBW : Hid (Below w.heap.size w wr) := Lib.hid (HB2.out.trans ((HON.out.below (Nat.le_of_lt HM2.out.lt)).mono (Nat.le_refl _)))
    by_cases hlt : i < N
    · have gi : (i : Int) < N := by omega
      obtain ⟨g, o, rfl, hg, hc⟩ := HK.out (by rw [HN.out]; omega)
      have hi2 : i < ks.length := by rw [HN.out]; exact hlt
      obtain ⟨t, ht⟩ : ∃ t, ks[i]? = some t := ⟨_, List.getElem?_eq_getElem hi2⟩
      have hce : wr.cell? ⟨g, o + i, none⟩ = some (.string t) := (World.cell?_of_block (a := ⟨g, o + i, none⟩) (HBW.out.block g hg)).trans (hc i t ht)
      have hbx := cell_of_row wr (w.heap.size + 1) 0 _ _ (0, 0) HBX.out
      obtain ⟨w6, hrun6, hm6, ho6⟩ := HST.out.put t (HKS.out t (List.mem_of_getElem? ht)) (by have := HCL.out; unfold maxLen; omega)
      have htk : ks.take i ++ [t] = ks.take (i + 1) := by rw [List.take_add_one, ht]; rfl
      have HM6 : Hid (SetS w6 w.heap.size (n + 1) (anyK (ks.take (i + 1)))) := Lib.hid (by rw [← htk, ← anyK_snoc]; exact hm6)
      have HB6 : Hid (w6.heap[w.heap.size + 1]? = some (.cells #[.map (some w.heap.size)] 87 (0, 0))) := Lib.hid ((ho6.block _ (row_lt _ _ _ HBX.out) (by omega)).trans HBX.out)
      have HO6 := Lib.hid (HON.out.trans ho6)
      have HNB : Hid (N ≤ 1000000) := Lib.hid HCL.out.2.2
      have hnb : i < 1000001 := by have := HCL.out; omega
      clear hc hm6 ho6 ht hi2 htk
      go_wp2_with (first
        | (at_mapUpdate; refine wpList_mapUpdate_run rfl _ _ _ _ rfl _ _ _ rfl rfl rfl hrun6 ?_))
      go_roundw
      case rel => exact ⟨i + 1, n + 1, by go_num, by omega, by omega, HB6, HM6, HO6⟩
      case measure => simp [intOf]; omega
    · obtain rfl : i = N := by omega
      have htk : ks.take i = ks := List.take_of_length_le (Nat.le_of_eq HN.out)
      have HST2 : Hid (SetS wr w.heap.size n (anyK ks)) := Lib.hid (by rw [← htk]; exact HST.out)
      have hlw : w.heap.size + 1 < wr.heap.size := row_lt _ _ _ HBX.out
      have hrv : RowsV wr A rs := HA.out.below HBW.out
      have hke := keptC 77 #[.pointer (some ⟨w.heap.size + 1, 0, none⟩)] rs (dropP ks rs) (fun _ W => DropI (w.heap.size + 1) w.heap.size n (anyK ks) W) (w.heap.size + 1) A c wr HEG.out (dropKeep ks rs (w.heap.size + 1) w.heap.size n HRS.out)
        (fun _ W W' hI _ hk => ⟨(hk _ hlw).trans hI.1, hI.2.keep (hk _ (by omega))⟩) ⟨HBX.out, HST2.out⟩ hrv hlw (fun h0 g' o' e => by
          obtain ⟨g, o, e2, hg, _⟩ := HA.out h0
          rw [e] at e2
          injection e2 with e2
          injection e2 with e2
          omega) HCL.out.1 HCL.out.2.1
      rw [HM.out] at hke
      have HKE := Lib.hid hke
      have HLW := Lib.hid hlw
      clear hke hlw hrv htk
      go_wp2_with (first
        | (go_at_call 57; refine HKE.out.mono ?_; (rintro r w7 ⟨A7, c7, rfl, ho7, _, hon7⟩); have HO7 := Lib.hid ho7; have HON7 := Lib.hid hon7; clear ho7 hon7))
      go_ret
      rw [keepL_filter ks rs rs 0 rfl] at HO7 ⊢
      exact ⟨A7, c7, wr.heap.size, rfl, HBW.out.size, HO7.out, HBW.out.trans (HON7.out.belowB (Nat.le_succ _) (Nat.le_of_lt HLW.out))⟩
theorem keyedC (k : Int) (c1 c2 c3 c4 : Value) (hk : k = 7 ∨ k = 8) (w : World) : Calls Try.prog 49 #[.agg #[.int .i64 k, c1, c2, c3, c4]] w fun e w' => e = .returned (.bool true) ∧ Below w.heap.size w w' := by
  have HB : Hid (∀ o : Obj, Below w.heap.size w (w.alloc o)) := Lib.hid (fun o => (Below.refl _ _).alloc (Nat.le_refl _) o)
  have HU := usesC k
  rcases hk with rfl | rfl
  all_goals
    simp [usesZ] at HU
    go_enter Try.func49, Try.ntmps49
    go_wp2_with (go_at_call 63; refine (HU _).mono ?_; rintro e w' ⟨rfl, rfl⟩)
    go_ret
    exact ⟨rfl, HB.out _⟩
def dropE (ks : List ByteArray) (d : Ens) : Ens := Ens.ofL (d.toL.filter (fun p => !(anyK ks p.1)))
theorem drop_rows (ks : List ByteArray) (d : Ens) (rs : List Rw) (h : rs.map prR = d.toL) : dropE ks d = Ens.ofL ((rs.filter (fun r => !(anyK ks r.s))).map prR) := by
  unfold dropE
  rw [← h, List.filter_map]
  rfl
theorem row5_of {W : World} {g : Nat} {z0 z1 z2 z3 z4 : Value} {T : TypeId} (hh : W.heap[g]? = some (.cells #[z0, z1, z2, z3, z4] T (0, 0))) :
    W.cell? ⟨g, 0, none⟩ = some z0 ∧ W.cell? ⟨g, 1, none⟩ = some z1 ∧ W.cell? ⟨g, 2, none⟩ = some z2 ∧ W.cell? ⟨g, 3, none⟩ = some z3 ∧ W.cell? ⟨g, 4, none⟩ = some z4 ∧ (∀ j, W.frozen? ⟨g, j, none⟩ = false) :=
  ⟨cell_of_row _ _ 0 _ _ (0, 0) hh, cell_of_row _ _ 1 _ _ (0, 0) hh, cell_of_row _ _ 2 _ _ (0, 0) hh, cell_of_row _ _ 3 _ _ (0, 0) hh, cell_of_row _ _ 4 _ _ (0, 0) hh, fun j => by simp [World.frozen?, hh]⟩
/-- What a maker leaves, the row of its entries with all that stands behind it. -/
def CpG (w : World) (x : Ob) (r : Ending) (w' : World) : Prop := ∃ d0 d1 d2 d3 d4, r = .returned (.agg #[d0, d1, d2, d3, d4]) ∧ ObR w' (fun g => w.heap.size ≤ g ∧ g < w'.heap.size) x d0 d1 d2 d3 d4 ∧ Below w.heap.size w w' ∧ CapD (fun g => w.heap.size ≤ g ∧ g < w'.heap.size) w' d2 d4 x
set_option maxHeartbeats 4000000 in
theorem pDropG (W : Nat) (k n : Int) (hk78 : k = 7 ∨ k = 8) (b : List Int) (l : Obs) (d : Ens) (ks : List ByteArray) (AK : Option Addr) (cK : Nat) (S : Nat → Prop) (w : World) (c0 c1 c2 c3 c4 : Value) (hx : ObR w S (.mk k n b l d) c0 c1 c2 c3 c4) (hS : ∀ g, S g → g < w.heap.size)
    (hK : KeysV w AK ks) (hkl : ks.length ≤ 1000000) (hks : ∀ t ∈ ks, t.size ≤ maxLen) (hds : ∀ p ∈ d.toL, p.1.size ≤ maxLen) (hdl : d.len ≤ 1000000000) (hW : wdO W (.mk k n b l (dropE ks d))) (hH : W * htO (.mk k n b l (dropE ks d)) ≤ 1000000000) :
    Calls Try.prog 32 #[.agg #[c0, c1, c2, c3, c4], .slice AK ks.length cK] w (CpG w (.mk k n b l (dropE ks d))) := by
  unfold ObR at hx
  obtain ⟨rfl, rfl, hk, hn, ⟨A2, m2, d2, rfl, hB⟩, ⟨A3, d3, rfl, h3, hl⟩, ⟨A4, d4, rfl, h4, hd⟩⟩ := hx
  obtain ⟨rs, r1, r2, r3, r4⟩ := ensV_rows (A := A4) (c := d4) ⟨h4, hd⟩ hS
  have hde := drop_rows ks d rs r1
  have hrs : ∀ r ∈ rs, r.s.size ≤ maxLen := fun r hr => hds (prR r) (by rw [← r1]; exact List.mem_map_of_mem hr)
  have hwo := fun (W' : World) (hb : Below w.heap.size w W') => withoutC rs A4 d4 ks AK cK W' (r3.below hb) (by rw [r2]; exact h4.1) (by rw [r2]; exact hdl) (hK.below hb) hkl hks hrs
  rw [r2] at hwo
  obtain ⟨L, hL⟩ : ∃ L, rs.filter (fun r => !(anyK ks r.s)) = L := ⟨_, rfl⟩
  rw [hL] at hwo hde
  have hLr : ∀ r ∈ L, RwR w S r := fun r hr => r4 r (by rw [← hL] at hr; exact (List.mem_filter.1 hr).1)
  have hLL : (dropE ks d).len = L.length := by rw [hde, Ens.ofL_len, List.length_map]
  have HCP := Lib.hid (fun (w3 : World) (A7 : Option Addr) (c7 B : Nat) (hb : Below w.heap.size w w3) (hB7 : w.heap.size + 1 ≤ B) (ho : w3.ownsRow B 32 6 (.slice A7 L.length c7) L.length (flatR L)) => pCopyF 1000000000 W (.mk k n b l (dropE ks d)) hW hH (Nat.le_refl _) (fun y => y ≠ w.heap.size ∧ y < w3.heap.size) (w3.setCell ⟨w.heap.size, 4, none⟩ (.slice A7 L.length c7)) (.int .i64 k) (.int .i64 n) (.slice A2 m2 d2) (.slice A3 l.len d3) (.slice A7 L.length c7) (by
    have hset := (Only.refl w.heap.size w3).set_ 4 (.slice A7 L.length c7)
    have key : ∀ y, S y → (w3.setCell ⟨w.heap.size, 4, none⟩ (.slice A7 L.length c7)).heap[y]? = w.heap[y]? := fun y hy => (hset.block y (Nat.lt_of_lt_of_le (hS y hy) hb.size) (Nat.ne_of_lt (hS y hy))).trans (hb.block y (hS y hy))
    have keyS : ∀ y, S y → y ≠ w.heap.size ∧ y < w3.heap.size := fun y hy => ⟨Nat.ne_of_lt (hS y hy), Nat.lt_of_lt_of_le (hS y hy) hb.size⟩
    obtain ⟨A9, c9, e9, hc9, hx9⟩ := row_shapeN ho
    injection e9 with e91 e92 e93
    subst e91 e93
    unfold ObR
    refine ⟨rfl, rfl, hk, hn, ⟨A2, m2, d2, rfl, hB.keep key keyS⟩, ⟨A3, d3, rfl, h3, fun h0 => ?_⟩, ⟨A7, c7, by rw [hLL], by rw [hLL]; exact hc9, fun h0 => ?_⟩⟩
    · obtain ⟨g, o, e, hg, hr⟩ := hl h0
      exact ⟨g, o, e, keyS g hg, ObsR.keep key keyS l g o (keyS g hg) hg hr⟩
    · obtain ⟨g, e, hBg, hgl, hcl⟩ := hx9 (by rw [← hLL]; exact h0)
      refine ⟨g, 0, e, ⟨by omega, hgl⟩, ?_⟩
      rw [hde]
      exact rows_ens L g 0 (fun j u hj => by
        rw [Nat.zero_add]
        exact (World.cell?_of_block (a := ⟨g, j, none⟩) (hset.block g hgl (by omega))).trans (by have := hcl j u hj; simpa using this)) (fun r hr => ObR.keep key keyS _ (hLr r hr))) (fun y hy => by have := hy.2; simpa [World.setCell] using this))
  have HWO := Lib.hid hwo
  have hb1 := (Below.refl w.heap.size w).alloc (Nat.le_refl _) (.cells #[.int .i64 k, .int .i64 n, .slice A2 m2 d2, .slice A3 l.len d3, .slice A4 d.len d4] 27)
  have hn1 := heap_alloc_new w (.cells #[.int .i64 k, .int .i64 n, .slice A2 m2 d2, .slice A3 l.len d3, .slice A4 d.len d4] 27)
  obtain ⟨W1, hW1⟩ : ∃ W1, w.alloc (.cells #[.int .i64 k, .int .i64 n, .slice A2 m2 d2, .slice A3 l.len d3, .slice A4 d.len d4] 27) = W1 := ⟨_, rfl⟩
  have hs1 : W1.heap.size = w.heap.size + 1 := by rw [← hW1]; simp
  rw [hW1] at hb1 hn1
  have hb0 := (Below.refl W1.heap.size W1).alloc (Nat.le_refl _) (.cells #[.int .i64 0, .int .i64 0, .slice none 0 0, .slice none 0 0, .slice none 0 0] 27)
  have hn0 := heap_alloc_new W1 (.cells #[.int .i64 0, .int .i64 0, .slice none 0 0, .slice none 0 0, .slice none 0 0] 27)
  obtain ⟨W0, hW0⟩ : ∃ W0, W1.alloc (.cells #[.int .i64 0, .int .i64 0, .slice none 0 0, .slice none 0 0, .slice none 0 0] 27) = W0 := ⟨_, rfl⟩
  rw [hW0] at hb0 hn0
  rw [hs1] at hn0
  have hbx := (hb0.block _ (row_lt _ _ _ hn1)).trans hn1
  have HBW := Lib.hid (hb1.trans (hb0.mono hb1.size))
  have HBX := Lib.hid hbx
  have HRZ := Lib.hid hn0
  have HW1 := Lib.hid hW1
  have HW0 := Lib.hid hW0
  have HKY := Lib.hid (fun W' => keyedC k (.int .i64 n) (.slice A2 m2 d2) (.slice A3 l.len d3) (.slice A4 d.len d4) hk78 W')
  have m0 := cell_of_row W0 w.heap.size 0 _ _ (0, 0) hbx
  have m1 := cell_of_row W0 w.heap.size 1 _ _ (0, 0) hbx
  have m2' := cell_of_row W0 w.heap.size 2 _ _ (0, 0) hbx
  have m3 := cell_of_row W0 w.heap.size 3 _ _ (0, 0) hbx
  have m4 := cell_of_row W0 w.heap.size 4 _ _ (0, 0) hbx
  obtain ⟨LD, hLD⟩ : ∃ LD, d.len = LD := ⟨_, rfl⟩
  obtain ⟨LO, hLO⟩ : ∃ LO, l.len = LO := ⟨_, rfl⟩
  obtain ⟨LK, hLK⟩ : ∃ LK, ks.length = LK := ⟨_, rfl⟩
  simp only [hLD, hLO, hLK] at *
  clear hk hn hB h3 hl h4 hd r1 r2 r3 r4 hde hrs hwo hL hLr hLL hK hkl hks hds hdl hW hH hb1 hn1 hs1 hb0 hn0 hbx hW1 hW0
  go_enter Try.func32, Try.ntmps32
  go_upto_region 1 with fail
  rw [HW1.out, HW0.out]
  go_upto_region 2 with (first
    | (go_at_call 49; refine (HKY.out _).mono ?_; (rintro r w2 ⟨rfl, hb2⟩); have HB2 := Lib.hid hb2; clear hb2))
  have HBW2 := Lib.hid (HBW.out.trans (HB2.out.mono HBW.out.size))
  have hbx2 := (HB2.out.block _ (row_lt _ _ _ HBX.out)).trans HBX.out
  have n4 := cell_of_row w2 w.heap.size 4 _ _ (0, 0) hbx2
  have HBX2 := Lib.hid hbx2
  have HRZ2 := Lib.hid ((HB2.out.block _ (row_lt _ _ _ HRZ.out)).trans HRZ.out)
  clear hbx2 m0 m1 m2' m3 m4
  go_upto_region 3 with (first
    | (go_at_call 54; refine (HWO.out _ HBW2.out).mono ?_; (rintro r w3 ⟨A7, c7, B7, rfl, hB7, ho7, hb7⟩); have HB7 := Lib.hid hB7; have HO7 := Lib.hid ho7; have HBL7 := Lib.hid hb7; have HBX3 := Lib.hid ((HBL7.out.block _ (row_lt _ _ _ HBX2.out)).trans HBX2.out); have f4 : w3.frozen? ⟨w.heap.size, 4, none⟩ = false := (by have hz := HBX3.out; simp [World.frozen?, hz]); have n5 := cell_of_row w3 w.heap.size 4 _ _ (0, 0) HBX3.out; clear hB7 ho7 hb7))
  have HBW3 := Lib.hid (HBW2.out.trans (HBL7.out.mono HBW2.out.size))
  have hsz2 : w.heap.size + 2 ≤ w2.heap.size := by have := row_lt _ _ _ HRZ2.out; omega
  have HCY := Lib.hid (HCP.out w3 A7 c7 B7 HBW3.out (by have := HB7.out; omega) HO7.out)
  have hrow := heap_set w3 w.heap.size 4 (.slice A7 L.length c7) [.int .i64 k, .int .i64 n, .slice A2 m2 d2, .slice A3 LO d3, .slice A4 LD d4] _ HBX3.out
  have hset := (Only.refl w.heap.size w3).set_ 4 (.slice A7 L.length c7)
  have hrz4 := (hset.block (w.heap.size + 1) (by have := HBL7.out.size; omega) (by omega)).trans ((HBL7.out.block _ (row_lt _ _ _ HRZ2.out)).trans HRZ2.out)
  have hbw4 := HBW3.out.trans ((hset.below (Nat.le_of_lt (row_lt _ _ _ HBX3.out))).mono (Nat.le_refl _))
  obtain ⟨w4, hw4⟩ : ∃ w4, w3.setCell ⟨w.heap.size, 4, none⟩ (.slice A7 L.length c7) = w4 := ⟨_, rfl⟩
  rw [hw4] at HCY hrow hrz4 hbw4
  rw [hw4]
  have q0 := cell_of_row w4 w.heap.size 0 _ _ (0, 0) hrow
  have q1 := cell_of_row w4 w.heap.size 1 _ _ (0, 0) hrow
  have q2 := cell_of_row w4 w.heap.size 2 _ _ (0, 0) hrow
  have q3 := cell_of_row w4 w.heap.size 3 _ _ (0, 0) hrow
  have q4 := cell_of_row w4 w.heap.size 4 _ _ (0, 0) hrow
  have HRZ4 := Lib.hid hrz4
  have HBW4 := Lib.hid hbw4
  clear hrow hset hrz4 hbw4 hw4 f4 n4 n5 hsz2
  go_wp2_with (first
    | (go_at_call 21; refine HCY.out.mono ?_; (rintro r w5 ⟨d0, d1, d2', d3', d4', hrr, hob, hb5, hcd⟩); subst hrr; obtain ⟨k5, n5, A5, m5, e5, A6, m6, e6, A8, m8, e8, rfl, rfl, rfl, rfl, rfl⟩ := hob.form; have HOB := Lib.hid hob; have HCD := Lib.hid hcd; have HB5 := Lib.hid hb5; have HRZ5 := Lib.hid ((hb5.block _ (row_lt _ _ _ HRZ4.out)).trans HRZ4.out); obtain ⟨r0, r1, r2, r3, r4, r5⟩ := zero_cells HRZ5.out; clear hob hcd hb5))
  refine bodyPost_ret (results_cell_row rfl _ _ (w.heap.size + 1) 27 _ (0, 0) _ rfl (set5_row HRZ5.out) Try.underlying27 rfl (by kernel_rfl)) rfl ?_
  have hlt4 := row_lt _ _ _ HRZ4.out
  exact ⟨_, _, _, _, _, rfl, ObR.keep (fun y hy => heap_set5 (by have := hy.1; omega)) (fun y hy => ⟨Nat.le_trans HBW4.out.size hy.1, by rw [size_set5]; exact hy.2.1⟩) _ HOB.out, below_set5 (HBW4.out.trans (HB5.out.mono HBW4.out.size)) (Nat.le_succ _), HCD.out.keep (fun y hy => heap_set5 (by have := hy.1; omega)) (fun y hy => ⟨Nat.le_trans HBW4.out.size hy.1, by rw [size_set5]; exact hy.2.1⟩)⟩
theorem keyedNo (k : Int) (c1 c2 c3 c4 : Value) (hk : ¬ (k = 7 ∨ k = 8)) (w : World) : Calls Try.prog 49 #[.agg #[.int .i64 k, c1, c2, c3, c4]] w fun e w' => e = .returned (.bool false) ∧ Below w.heap.size w w' := by
  have HB : Hid (∀ o : Obj, Below w.heap.size w (w.alloc o)) := Lib.hid (fun o => (Below.refl _ _).alloc (Nat.le_refl _) o)
  have HU := usesC k
  have h : usesZ k = 0 ∨ usesZ k = 1 ∨ usesZ k = 2 ∨ usesZ k = 4 := by
    unfold usesZ
    by_cases h1 : k = 1 ∨ k = 2 ∨ k = 3 ∨ k = 9
    · rw [if_pos h1]; omega
    rw [if_neg h1]
    by_cases h2 : k = 4 ∨ k = 5
    · rw [if_pos h2]; omega
    rw [if_neg h2]
    by_cases h3 : k = 6
    · rw [if_pos h3]; omega
    rw [if_neg h3, if_neg (fun e => hk (.inl e)), if_neg (fun e => hk (.inr e))]; omega
  rcases h with h | h | h | h
  all_goals
    rw [h] at HU
    go_enter Try.func49, Try.ntmps49
    go_wp2_with (go_at_call 63; refine (HU _).mono ?_; rintro e w' ⟨rfl, rfl⟩)
    go_ret
    exact ⟨rfl, HB.out _⟩
set_option maxHeartbeats 4000000 in
/-- Drop of what has no entries: a copy. -/
theorem pDropN (W : Nat) (x : Ob) (hk : ¬ (x.kind = 7 ∨ x.kind = 8)) (vK : Value) (S : Nat → Prop) (w : World) (c0 c1 c2 c3 c4 : Value) (hx : ObR w S x c0 c1 c2 c3 c4) (hS : ∀ g, S g → g < w.heap.size) (hW : wdO W x) (hH : W * htO x ≤ 1000000000) :
    Calls Try.prog 32 #[.agg #[c0, c1, c2, c3, c4], vK] w (CpP w x) := by
  obtain ⟨k, n, A2, m2, d2, A3, m3, d3, A4, m4, d4, rfl, rfl, rfl, rfl, rfl⟩ := hx.form
  have hkk := kind_c0 hx
  injection hkk with _ hkk
  rw [← hkk] at hk
  have hb2 := ((Below.refl w.heap.size w).alloc (Nat.le_refl _) (.cells #[.int .i64 k, .int .i64 n, .slice A2 m2 d2, .slice A3 m3 d3, .slice A4 m4 d4] 27)).alloc (by simp) (.cells #[.int .i64 0, .int .i64 0, .slice none 0 0, .slice none 0 0, .slice none 0 0] 27)
  have hn2 := heap_alloc2_new w (.cells #[.int .i64 k, .int .i64 n, .slice A2 m2 d2, .slice A3 m3 d3, .slice A4 m4 d4] 27) (.cells #[.int .i64 0, .int .i64 0, .slice none 0 0, .slice none 0 0, .slice none 0 0] 27)
  have hn1 : ((w.alloc (.cells #[.int .i64 k, .int .i64 n, .slice A2 m2 d2, .slice A3 m3 d3, .slice A4 m4 d4] 27)).alloc (.cells #[.int .i64 0, .int .i64 0, .slice none 0 0, .slice none 0 0, .slice none 0 0] 27)).heap[w.heap.size]? = some (.cells #[.int .i64 k, .int .i64 n, .slice A2 m2 d2, .slice A3 m3 d3, .slice A4 m4 d4] 27) := by
    rw [heap_alloc_old _ _ (by simp)]; exact heap_alloc_new w _
  obtain ⟨W2, hW2⟩ : ∃ W2, (w.alloc (.cells #[.int .i64 k, .int .i64 n, .slice A2 m2 d2, .slice A3 m3 d3, .slice A4 m4 d4] 27)).alloc (.cells #[.int .i64 0, .int .i64 0, .slice none 0 0, .slice none 0 0, .slice none 0 0] 27) = W2 := ⟨_, rfl⟩
  rw [hW2] at hb2 hn2 hn1
  have HKY := Lib.hid (keyedNo k (.int .i64 n) (.slice A2 m2 d2) (.slice A3 m3 d3) (.slice A4 m4 d4) hk W2)
  have HCY := Lib.hid (fun W' (hW' : Below w.heap.size w W') => pCopyC 1000000000 W x hW hH (Nat.le_refl _) S W' _ _ _ _ _ (ObR.keep (fun y hy => hW'.block y (hS y hy)) (fun _ h => h) _ hx) (fun y hy => Nat.lt_of_lt_of_le (hS y hy) hW'.size))
  have m0 := cell_of_row W2 w.heap.size 0 _ _ (0, 0) hn1
  have m1 := cell_of_row W2 w.heap.size 1 _ _ (0, 0) hn1
  have m2' := cell_of_row W2 w.heap.size 2 _ _ (0, 0) hn1
  have m3' := cell_of_row W2 w.heap.size 3 _ _ (0, 0) hn1
  have m4' := cell_of_row W2 w.heap.size 4 _ _ (0, 0) hn1
  have HB2 := Lib.hid hb2
  have HN1 := Lib.hid hn1
  have HN2 := Lib.hid hn2
  have HW2 := Lib.hid hW2
  clear hx hS hW hH hb2 hn2 hn1 hW2 hk hkk
  go_enter Try.func32, Try.ntmps32
  go_upto_region 1 with fail
  rw [HW2.out]
  go_upto_region 3 with (go_at_call 49; refine HKY.out.mono ?_; (rintro r w3 ⟨rfl, hb3⟩); have HB3 := Lib.hid (HB2.out.trans (hb3.mono HB2.out.size)); have HZ3 := Lib.hid (blk_keep9 hb3 HN2.out); (obtain ⟨q0, q1, q2, q3, q4, -⟩ := row5_of (blk_keep9 hb3 HN1.out)); clear hb3 m0 m1 m2' m3' m4')
  go_wp2_with (go_at_call 21; refine (HCY.out _ HB3.out).mono ?_; (rintro r w5 ⟨e0, e1, e2, e3, e4, rfl, hob, hb5⟩); (obtain ⟨k5, n5, A5, m5, e5, A6, m6, e6, A8, m8, e8, rfl, rfl, rfl, rfl, rfl⟩ := hob.form); have HOB := Lib.hid hob; have HB5 := Lib.hid hb5; have HZ5 := Lib.hid (blk_keep9 hb5 HZ3.out); (obtain ⟨r0, r1, r2, r3, r4, r5⟩ := zero_cells HZ5.out); clear hob hb5)
  refine bodyPost_ret (results_cell_row rfl _ _ (w.heap.size + 1) 27 _ (0, 0) _ rfl (set5_row HZ5.out) Try.underlying27 rfl (by kernel_rfl)) rfl ?_
  have hlt4 := row_lt _ _ _ HZ3.out
  exact ⟨_, _, _, _, _, rfl, ObR.keep (fun y hy => heap_set5 (by have := hy.1; omega)) (fun y hy => ⟨Nat.le_trans HB3.out.size hy.1, by rw [size_set5]; exact hy.2⟩) _ HOB.out, below_set5 (HB3.out.trans (HB5.out.mono HB3.out.size)) (Nat.le_succ _)⟩
end
end Go.Proofs.Ytdkmomdioiipjaa
