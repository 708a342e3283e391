/- AsciiBack: what was written is read as it was, with white signs put in anywhere and more bytes behind; one byte less of room is a limit. No condition on the input. -/
import Derived.Test.YtnonldlddgankaaLaw6Do
namespace Go.Proofs.Ytnonldlddgankaa
open Go.ChangeShapes Go.WideShapes Go.ChangeAt Go.RowKit Go.Deep
set_option linter.unusedVariables false
set_option maxRecDepth 100000

/-- A slice of numbers of 16 bits. -/
structure Sht (w : World) (B : Nat) (A : Option Addr) (n c : Nat) (us : List Int) : Prop where
  len : us.length = n
  cap : n ≤ c
  rng : ∀ z ∈ us, 0 ≤ z ∧ z < 65536
  cell : 0 < n → ∃ b o, A = some ⟨b, o, none⟩ ∧ b < B ∧ ∀ i, i < n → w.cell? ⟨b, o + i, none⟩ = some (.int .u16 (us.getD i 0))
theorem Sht.below {w w' : World} {B B' n c : Nat} {A : Option Addr} {us : List Int} (h : Sht w B A n c us) (hb : Below B' w w') (hB : B ≤ B') : Sht w' B A n c us :=
  ⟨h.len, h.cap, h.rng, fun hn => by
    obtain ⟨b, o, e, hlt, hc⟩ := h.cell hn
    exact ⟨b, o, e, hlt, fun i hi => (hb.cell (p := ⟨b, o + i, none⟩) (Nat.lt_of_lt_of_le hlt hB)).trans (hc i hi)⟩⟩
theorem short_wf {z : Int} (h : (Lit.int .u16 z).wf = true) : 0 ≤ z ∧ z < 65536 := by
  simp [Lit.wf] at h
  have e1 : IntKind.u16.min = 0 := by decide
  have e2 : IntKind.u16.max = 65535 := by decide
  omega
theorem open_shorts {H : Type} {enc : TypeId × Value → H} {W : World} {base : Nat} {sp : Nat → Bool} {held : Bool} {A : Option Addr} {len cap : Nat} {d : DataW H} {p : List MemPlace}
    (h : DataW.Trod enc Try.prog W base sp held 34 (.slice A len cap) d p) (hsp : ∀ b, sp b = true) : ∃ us, Sht W W.heap.size A len cap us ∧ cap ≤ maxLen := by
  obtain ⟨fuel, hf⟩ := h
  rcases open_ints Try.underlying34 Try.underlying35 (by kernel_rfl) hf with ⟨hcs, _⟩ | ⟨x, l, c, zs, hcs, _, hl, hm, hz, _, hcell, hwz⟩
  · simp [Value.cells] at hcs
    obtain ⟨rfl, rfl, rfl⟩ := hcs
    exact ⟨[], ⟨rfl, Nat.le_refl _, (fun _ h => by cases h), fun h => absurd h (by omega)⟩, Nat.zero_le _⟩
  · simp [Value.cells] at hcs
    obtain ⟨rfl, rfl, rfl⟩ := hcs
    have hz' : zs.length = cap := by simpa [hsp] using hz
    refine ⟨zs.take len, ⟨by simp; omega, hl, fun z hz => short_wf (hwz z (List.mem_of_mem_take hz)), fun h0 => ?_⟩, hm⟩
    obtain ⟨b, o, rfl, hc⟩ := ints_at hcell (by omega)
    refine ⟨b, o, rfl, cell_lt (hc 0 (by omega)), fun i hi => ?_⟩
    rw [hc i (by omega)]
    simp [List.getD, hi]

theorem Mine.put_ {w : World} {base p : Nat} {v : Value} {zs : List Int} (h : Mine w base v p zs) (hp : 0 < p) : ∃ b c, v = .slice (some ⟨b, 0, none⟩) p c ∧ base ≤ b ∧ b < w.heap.size ∧ p ≤ c := by
  obtain ⟨A2, c2, e2, hby⟩ := h.byt
  rcases h.own.2 with ⟨rfl, h0⟩ | ⟨b, cap, cur, rfl, hb, hh, hnc, _⟩
  · omega
  · exact ⟨b, cap, rfl, hb, h.lt b rfl, hnc⟩

/-- An append to a row of one's own, as one step of a region that draws. -/
theorem step_am {ops : Array Oper} {o : Oper} {a : Act} {w : World} {K : Act → World → Prop} {Q : Exit → Act → World → Prop} {E : Prop} (hg : o.guard = none) (s x : Operand)
    (hop : o.op = Op.call { callee := Callee.builtin Builtin.append, args := #[s, x], argTypes := #[23, 23] }) (v : Value) (A : Option Addr) (m c : Nat) (hs : a.eval s = v) (hx : a.eval x = .slice A m c)
    {base p B : Nat} {zs ys : List Int} (hM : Mine w base v p zs) (hY : Byt w B A m c ys) (hb : p + m ≤ 140737488355328) (hbase : base ≤ w.heap.size)
    (hK : ∀ v' w', Mine w' base v' (p + m) (zs ++ ys) → Below base w w' → (∀ k, k < w.heap.size → v.ownBlock ≠ some k → w'.heap[k]? = w.heap[k]?) → (∀ b, v'.ownBlock = some b → v.ownBlock = some b ∨ w.heap.size ≤ b) → K (a.put o.dst v') w') :
    if Region.wanted o (yielded ops a.tmps) = true then Oper.wp Try.prog o a w K Q else E := by
  obtain ⟨v', w', hrun, hm, hbe, hf, _, ho⟩ := hM.appendT hY o.type hb hbase
  exact step_append_run6 hg s x _ hop _ _ hs hx hrun (hK v' w' hm hbe hf ho)
theorem mine_empty (w : World) (base : Nat) (h : base ≤ w.heap.size) : Mine (w.alloc (.cells #[] 5)) base (.slice (some ⟨w.heap.size, 0, none⟩) 0 0) 0 [] :=
  ⟨⟨rfl, .inr ⟨w.heap.size, 0, #[], rfl, h, heap_alloc_new w _, Nat.le_refl _, Nat.zero_le _, rfl, rfl⟩⟩, fun _ h => by cases h⟩
theorem mine_empty2 (w : World) (g base : Nat) (hg : w.heap.size = g) (h : base ≤ g) : Mine (w.alloc (.cells #[] 5)) base (.slice (some ⟨g, 0, none⟩) 0 0) 0 [] := by subst hg; exact mine_empty w base h
theorem byt_lit2 (w : World) (g : Nat) (z : Int) (hg : w.heap.size = g) (hz : 0 ≤ z ∧ z < 256) : Byt (w.alloc (.cells #[.int .u8 z] 5)) (g + 1) (some ⟨g, 0, none⟩) 1 1 [z] := by subst hg; exact byt_lit0 w z hz
theorem Byt.keep1 {w w' : World} {B b n c : Nat} {zs : List Int} (h : Byt w B (some ⟨b, 0, none⟩) n c zs) (hb : w'.heap[b]? = w.heap[b]?) : Byt w' B (some ⟨b, 0, none⟩) n c zs :=
  ⟨h.len, h.cap, h.rng, fun hn => by
    obtain ⟨b', o', e, hlt, hc⟩ := h.cell hn
    injection e with e
    injection e with e1 e2
    subst e1 e2
    exact ⟨b, 0, rfl, hlt, fun i hi => (World.cell?_of_block (a := ⟨b, 0 + i, none⟩) hb).trans (hc i hi)⟩⟩
theorem row_byt {w : World} {base b p c : Nat} {zs : List Int} (h : Mine w base (.slice (some ⟨b, 0, none⟩) p c) p zs) : Byt w w.heap.size (some ⟨b, 0, none⟩) p c zs := by
  obtain ⟨A, c', e, hy⟩ := h.byt
  injection e with e1 e2 e3
  subst e1 e3
  exact hy
theorem row_cut1 {w W : World} {base b p c k : Nat} {zs : List Int} (h : Mine w base (.slice (some ⟨b, 0, none⟩) p c) p zs) (hW : Below w.heap.size w W) (hk : k ≤ p) (hc : 0 < c) (hp : p ≤ c) : Byt W w.heap.size (some ⟨b, 0, none⟩) k c (zs.take k) := by
  have h2 := ((row_byt h).below hW (Nat.le_refl _)).first (m := k) hk
  rw [cutA_some _ _ _ _ (by omega), Nat.zero_add] at h2
  exact h2
theorem row_cut2 {w W : World} {base b p c k : Nat} {zs : List Int} (h : Mine w base (.slice (some ⟨b, 0, none⟩) p c) p zs) (hW : Below w.heap.size w W) (hk : k < p) (hp : p ≤ c) : Byt W w.heap.size (some ⟨b, k, none⟩) (p - k) (c - k) (zs.drop k) := by
  have hy := (row_byt h).below hW (Nat.le_refl _)
  have h2 := hy.cut (l := k) (m := p - k) (by omega)
  rw [cutA_some _ _ _ _ (by omega), Nat.zero_add, List.take_of_length_le (by rw [List.length_drop, hy.len]; exact Nat.le_refl _)] at h2
  exact h2
theorem cut_low (b L c k : Nat) (hk : k < L) (hc : L ≤ c) : ∀ W, (Instr.slice 23 (.slice (some ⟨b, 0, none⟩) L c) none (some (.int .i64 (k : Int))) none).run Try.prog W = .ok (.slice (some ⟨b, 0, none⟩) k c) W := fun W => by
  have := run_cut0 (P := Try.prog) W 23 5 Try.underlying23 (fun w => by kernel_rfl) (some ⟨b, 0, none⟩) L c k (by omega)
  rw [cutA_some _ _ _ _ (by omega)] at this
  exact this
theorem cut_high (b L c k : Nat) (hk : k < L) (hc : L ≤ c) : ∀ W, (Instr.slice 23 (.slice (some ⟨b, 0, none⟩) L c) (some (.int .i64 (k : Int))) none none).run Try.prog W = .ok (.slice (some ⟨b, k, none⟩) (L - k) (c - k)) W := fun W => by
  have := run_cutR (P := Try.prog) W 23 5 Try.underlying23 (fun w => by kernel_rfl) (some ⟨b, 0, none⟩) L c k (by omega) (by omega)
  rw [cutA_some _ _ _ _ (by omega), Nat.zero_add] at this
  exact this
/-- An append to a row of one's own: the row as it was is still there. -/
theorem Mine.appendK {w : World} {base p b cp : Nat} {zs : List Int} (h : Mine w base (.slice (some ⟨b, 0, none⟩) p cp) p zs) {B m c : Nat} {A : Option Addr} {ys : List Int} (hy : Byt w B A m c ys) (ty : TypeId) (hb : p + m ≤ 140737488355328) (hbase : base ≤ w.heap.size) :
    ∃ v' w', (Builtin.append_ #[23, 23] ty #[.slice (some ⟨b, 0, none⟩) p cp, .slice A m c]).run Try.prog w = .ok v' w' ∧ Mine w' base v' (p + m) (zs ++ ys) ∧ Below base w w' ∧
      (∀ k, k < w.heap.size → k ≠ b → w'.heap[k]? = w.heap[k]?) ∧ Byt w' w.heap.size (some ⟨b, 0, none⟩) p cp zs := by
  obtain ⟨i0, hi, hz0, hz1, hz2⟩ := info_parts info5
  have hrow := row_byt h
  rcases A with _ | a
  · have h0 : m = 0 := by
      rcases Nat.eq_zero_or_pos m with h0 | h0
      · exact h0
      · obtain ⟨b, o, e, _⟩ := hy.cell h0
        cases e
    subst h0
    have hn : ys = [] := List.eq_nil_of_length_eq_zero hy.len
    subst hn
    refine ⟨_, w, ?_, by simpa using h, Below.refl _ _, fun _ _ _ => rfl, hrow⟩
    have hnc := hrow.cap
    simp [Builtin.append_, run_underlying Try.underlying23, sizeOf, typeInfo, hi, Builtin.lenOf, Builtin.firstCells, hnc, storeCells]
  · obtain ⟨v', w', hr, hM, hB, hf, hs, ho⟩ := h.appendT hy ty hb hbase
    refine ⟨v', w', hr, hM, hB, fun k hk hne => hf k hk (by simp [Value.ownBlock]; exact fun e => hne e.symm), ?_⟩
    have hcell : ∀ j u, (ys.map (Value.int .u8))[j]? = some u → w.cell? (a.add j) = some u := by
      intro j u hj
      have hjl : j < ys.length := by have := (List.getElem?_eq_some_iff.1 hj).1; simpa using this
      have hyl := hy.len
      obtain ⟨b, o, e, _, hc⟩ := hy.cell (by omega)
      injection e with e
      subst e
      have e2 : (⟨b, o, none⟩ : Addr).add j = ⟨b, o + j, none⟩ := by unfold Addr.add; split <;> simp_all
      rw [e2, hc j (by omega), ← hj]
      simp [List.getD, hjl]
    rcases h.own.2 with ⟨e, _⟩ | ⟨g, cap, cur, e, hbg, hg, hnc, hcm, hcs, htake⟩
    · cases e
    · injection e with e1 e2 e3
      injection e1 with e1
      injection e1 with e1
      subst e1 e3
      rcases Nat.lt_or_ge cp (p + m) with hgrow | hroom
      · have holds : ∀ j u, (zs.map (Value.int .u8))[j]? = some u → w.cell? ((⟨b, 0, none⟩ : Addr).add j) = some u := h.own.cells (g := b) rfl
        have hr2 := run_append_grow (P := Try.prog) w 23 ty 5 i0 _ Try.underlying23 hi hz0 ⟨b, 0, none⟩ p cp (zs.map (Value.int .u8)) (by rw [hz1]; exact h.own.1) holds a m c (ys.map (Value.int .u8)) (by simp [hy.len, hz1]) hcell (by omega) (by omega) (growslice_fits (by omega) (by rw [hz2]; omega))
        rw [hr] at hr2
        injection hr2 with e1 e2
        subst e2
        exact hrow.keep1 (heap_alloc_old w.drew _ (h.lt b rfl))
      · have hr2 := run_append_room (P := Try.prog) w 23 ty 5 i0 Try.underlying23 hi b p cp cur hg a m c (ys.map (Value.int .u8)) (by simp [hy.len, hz1]) hcell (fun u hu => by obtain ⟨x, _, rfl⟩ := List.mem_map.1 hu; rfl) hroom (by rw [hcs, hz1, List.length_map, hy.len]; omega)
        rw [hr] at hr2
        injection hr2 with e1 e2
        subst e1
        have hl := h.lt b rfl
        refine ⟨hrow.len, hrow.cap, hrow.rng, fun hn => ⟨b, 0, rfl, hl, fun i hi => ?_⟩⟩
        obtain ⟨A', c', e, hy'⟩ := hM.byt
        injection e with e1 e2 e3
        subst e1
        obtain ⟨b', o', e, _, hc⟩ := hy'.cell (by omega)
        injection e with e
        injection e with e1 e2
        subst e1 e2
        rw [hc i (by omega)]
        have := hrow.len
        simp only [List.getD]
        rw [List.getElem?_append_left (by omega)]
theorem Mine.base6 {w : World} {B B' p : Nat} {v : Value} {zs : List Int} (h : Mine w B' v p zs) (hB : B ≤ B') : Mine w B v p zs := by
  refine ⟨⟨h.own.1, ?_⟩, h.rng⟩
  rcases h.own.2 with h0 | ⟨b, cap, cur, e, hb, rest⟩
  · exact .inl h0
  · exact .inr ⟨b, cap, cur, e, Nat.le_trans hB hb, rest⟩
theorem Mine.low {w : World} {base p : Nat} {v : Value} {zs : List Int} (h : Mine w base v p zs) (b : Nat) (hb : v.ownBlock = some b) : base ≤ b := by
  rcases h.own.2 with ⟨rfl, _⟩ | ⟨b', cap, cur, rfl, hlo, _⟩
  · cases hb
  · injection hb with hb
    dsimp only at hb
    omega
theorem Mine.cast6 {w : World} {base p : Nat} {v : Value} {zs : List Int} (h : Mine w base v p zs) : Mine w base v zs.length zs := by rw [h.len]; exact h
theorem Byt.far6 {w w' : World} {b g n c : Nat} {A : Option Addr} {zs : List Int} (h : Byt w w.heap.size A n c zs) (hf : ∀ k, k < w.heap.size → k ≠ b → w'.heap[k]? = w.heap[k]?) (hfr : From g A n) (hb : b < g) : Byt w' w.heap.size A n c zs :=
  ⟨h.len, h.cap, h.rng, fun hn => by
    obtain ⟨b', o', rfl, hlt, hc⟩ := h.cell hn
    have := hfr hn b' o' rfl
    exact ⟨b', o', rfl, hlt, fun i hi => (World.cell?_of_block (a := ⟨b', o' + i, none⟩) (hf b' hlt (by omega))).trans (hc i hi)⟩⟩
theorem ReadPost.at_ {w w' : World} {zs : List Int} {n : Nat} {r : Ending} (hn : zs.length = n) (h : ReadPost w (zs, 0) r w') : ∃ A c, r = .returned (.tuple #[.slice A n c, .int .i64 0]) ∧ Byt w' w'.heap.size A n c zs ∧ Below w.heap.size w w' ∧ From w.heap.size A n := by
  subst hn
  exact h
theorem ReadPost.bad_ {w w' : World} {r : Ending} (h : ReadPost w ([], 7) r w') : ∃ A c, r = .returned (.tuple #[.slice A 0 c, .int .i64 7]) ∧ Below w.heap.size w w' := by
  obtain ⟨A, c, rfl, _, hb, _⟩ := h
  exact ⟨A, c, rfl, hb⟩
theorem strip_put (P : List Int) (k : Nat) (z : Int) (hz : whB z = true) : strip ([] ++ P.take k ++ [z] ++ P.drop k) = strip P := by
  rw [List.nil_append, strip_app, strip_app, show strip [z] = [] by simp [strip, hz], List.append_nil, ← strip_app, List.take_append_drop]
theorem put_len (P : List Int) (k : Nat) (z : Int) : ([] ++ P.take k ++ [z] ++ P.drop k).length = P.length + 1 := by
  simp only [List.nil_append, List.length_append, List.length_take, List.length_drop, List.length_cons, List.length_nil]
  omega
theorem unhx_ok (zs P ms : List Int) (n : Nat) (hr : ∀ z ∈ zs, 0 ≤ z ∧ z < 256) (hn : zs.length = n) (hP : strip P = hexS zs) : unhxR (max (n : Int) 0).toNat (P ++ ms) (-1) [] = (zs, 0) := by
  rw [show (max (n : Int) 0).toNat = n by omega, ← unhx_strip, strip_app, hP, unhx_hexS n zs _ hr, if_neg (by omega)]
theorem u85_ok (zs P ms : List Int) (n : Nat) (hr : ∀ z ∈ zs, 0 ≤ z ∧ z < 256) (hn : zs.length = n) (hP : strip P = b85S zs) : u85R (max (n : Int) 0).toNat (P ++ ms) [] [] = (zs, 0) := by
  rw [show (max (n : Int) 0).toNat = n by omega, ← u85_strip, strip_app, hP, u85_b85S n zs _ hr (by omega), if_neg (by omega)]
theorem unhx_bad6 (zs P : List Int) (n : Nat) (hr : ∀ z ∈ zs, 0 ≤ z ∧ z < 256) (hn : zs.length = n) (h0 : 0 < n) (hP : strip P = hexS zs) : unhxR (max ((n : Int) - 1) 0).toNat P (-1) [] = ([], 7) := by
  rw [show (max ((n : Int) - 1) 0).toNat = n - 1 by omega, ← unhx_strip, hP, ← List.append_nil (hexS zs), unhx_hexS (n - 1) zs _ hr, if_pos (by omega)]
theorem u85_bad6 (zs P : List Int) (n : Nat) (hr : ∀ z ∈ zs, 0 ≤ z ∧ z < 256) (hn : zs.length = n) (h0 : 0 < n) (hP : strip P = b85S zs) : u85R (max ((n : Int) - 1) 0).toNat P [] [] = ([], 7) := by
  rw [show (max ((n : Int) - 1) 0).toNat = n - 1 by omega, ← u85_strip, hP, ← List.append_nil (b85S zs), u85_b85S (n - 1) zs _ hr (by omega), if_pos (by omega)]
set_option maxHeartbeats 8000000 in
theorem back_walk (A : Option Addr) (n c : Nat) (zs : List Int) (A1 : Option Addr) (n1 c1 : Nat) (us : List Int) (A2 : Option Addr) (n2 c2 : Nat) (ms : List Int) (w : World)
    (hb : Byt w w.heap.size A n c zs) (hn : n ≤ 9223372036854775807) (hu : Sht w w.heap.size A1 n1 c1 us) (hn1 : n1 ≤ 9223372036854775807) (hm : Byt w w.heap.size A2 n2 c2 ms) (hn2 : n2 ≤ 9223372036854775807) :
    Calls Try.prog 6 #[.slice A n c, .slice A1 n1 c1, .slice A2 n2 c2] w fun e w' => e = .returned (.bool true) ∧ Below w.heap.size w w' := by
  have HAW := Lib.hid (awake_any w)
  by_cases hok : n ≤ 500 ∧ n1 ≤ 30 ∧ n2 ≤ 30
  · obtain ⟨ho0, ho1, ho2⟩ := hok
    have HB := Lib.hid (fun W (hW : Below w.heap.size w W) => (hb.below hW (Nat.le_refl _)).more hW.size)
    have HU := Lib.hid (fun W (hW : Below w.heap.size w W) => hu.below hW (Nat.le_refl _))
    have HM := Lib.hid (fun W (hW : Below w.heap.size w W) => hm.below hW (Nat.le_refl _))
    have hlen := hb.len
    have HLEN := Lib.hid hlen
    have hn0i : ¬ (500 : Int) < n := by omega
    have hn1i : ¬ (30 : Int) < n1 := by omega
    have hn2i : ¬ (30 : Int) < n2 := by omega
    have H1 := Lib.hid (fun W (hW : Byt W W.heap.size A n c zs) => pHex A n c zs W hW (by omega))
    have H3 := Lib.hid (fun W (hW : Byt W W.heap.size A n c zs) => pBase85 A n c zs W hW (by omega))
    have hl1 : (hexS zs).length ≤ 1001 ∧ 1 ≤ (hexS zs).length := by unfold hexS; rw [List.length_append, hxB_len, hlen]; simp; omega
    have hl2 : (b85S zs).length ≤ 1001 ∧ 1 ≤ (b85S zs).length := by have := b85S_len zs; omega
    have hst1 := hexS_strip zs hb.rng
    have hst2 := b85S_strip zs
    obtain ⟨X, hX⟩ : ∃ X, hexS zs = X := ⟨_, rfl⟩
    obtain ⟨Y, hY⟩ : ∃ Y, b85S zs = Y := ⟨_, rfl⟩
    rw [hX] at H1 hl1 hst1
    rw [hY] at H3 hl2 hst2
    obtain ⟨LX, hLX⟩ : ∃ L, X.length = L := ⟨_, rfl⟩
    obtain ⟨LY, hLY⟩ : ∃ L, Y.length = L := ⟨_, rfl⟩
    rw [hLX] at H1 hl1
    rw [hLY] at H3 hl2
    have HX := Lib.hid hX
    have HY := Lib.hid hY
    have HLX := Lib.hid hLX
    have HLY := Lib.hid hLY
    have HST1 := Lib.hid hst1
    have HST2 := Lib.hid hst2
    have HL1 := Lib.hid hl1
    have HL2 := Lib.hid hl2
    clear hb hu hm hX hY hLX hLY hst1 hst2 hl1 hl2 hlen
    go_enter Try.func6, Try.ntmps6
    go_wp2_with (first
      | (go_at_call 8; refine HAW.out.mono ?_; (rintro r w0 ⟨rfl, hb0⟩); have HB0 := Lib.hid hb0; clear hb0)
      | (go_at_call 12; refine (H1.out _ (HB.out _ HB0.out)).mono ?_; (rintro r w1 ⟨v1, rfl, hm1, hb1⟩); have HM1 := Lib.hid hm1; have HB1 := Lib.hid (HB0.out.trans (hb1.mono HB0.out.size)); clear hm1 hb1)
      | (go_at_call 13; refine (H3.out _ (HB.out _ HB1.out)).mono ?_; (rintro r w2 ⟨v2, rfl, hm2, hb2⟩); have HM1b := Lib.hid (HM1.out.kept hb2); have HM2 := Lib.hid hm2; have HB2 := Lib.hid (HB1.out.trans (hb2.mono HB1.out.size)); clear hm2 hb2))
    go_loopw [7, 8, 9, 10] (fun hv av iv kv wr => ∃ (i : Nat) (P Q : List Int), i ≤ n1 ∧ iv = .int .i64 i ∧ Hid (Mine wr w.heap.size hv P.length P) ∧ Hid (Mine wr w.heap.size av Q.length Q) ∧ Hid (strip P = X ∧ P.length = LX + i) ∧ Hid (strip Q = Y ∧ Q.length = LY + i) ∧ Hid (∀ b, hv.ownBlock = some b → av.ownBlock ≠ some b) ∧ Hid (Below w.heap.size w wr)) (fun _ _ iv _ _ => n1 - (intOf iv).toNat)
    case atStart =>
      exact ⟨0, X, Y, Nat.zero_le _, rfl, Lib.hid (by rw [HLX.out]; exact HM1b.out.base6 HB0.out.size), Lib.hid (by rw [HLY.out]; exact HM2.out.base6 HB1.out.size), Lib.hid ⟨HST1.out, HLX.out⟩, Lib.hid ⟨HST2.out, HLY.out⟩, Lib.hid (fun b h1 h2 => by have := HM1.out.lt b h1; have := HM2.out.low b h2; omega), HB2⟩
    case round =>
      obtain ⟨i, P, Q, hi, rfl, HP, HQ, HSP, HSQ, HAP, HBE⟩ := hrel
      have hb0 := HBE.out.size
      by_cases hlt : i < n1
      · have hsu := HU.out _ HBE.out
        obtain ⟨b1, o1, rfl, hb1lt, hcu⟩ := hsu.cell (by omega)
        have cu := hcu i hlt
        have hur : 0 ≤ us.getD i 0 ∧ us.getD i 0 < 65536 := by
          have hil : i < us.length := by rw [hsu.len]; exact hlt
          rw [show us.getD i 0 = us[i] by simp [List.getD, hil]]
          exact hsu.rng _ (List.getElem_mem hil)
        obtain ⟨x, hx⟩ : ∃ x, us.getD i 0 = x := ⟨_, rfl⟩
        rw [hx] at cu hur
        obtain ⟨x0, x1⟩ := hur
        have hLp : 0 < P.length ∧ P.length ≤ 1100 := by have := HSP.out.2; have := HL1.out; omega
        have hLq : 0 < Q.length ∧ Q.length ≤ 1100 := by have := HSQ.out.2; have := HL2.out; omega
        obtain ⟨bh, ch, rfl, hbh, hlh, hch⟩ := HP.out.put_ hLp.1
        obtain ⟨ba, ca, rfl, hba, hla, hca⟩ := HQ.out.put_ hLq.1
        obtain ⟨L, hL⟩ : ∃ L, P.length = L := ⟨_, rfl⟩
        obtain ⟨M, hM⟩ : ∃ M, Q.length = M := ⟨_, rfl⟩
        rw [hL] at hLp hch
        rw [hM] at hLq hca
        obtain ⟨hL1, hL2⟩ := hLp
        obtain ⟨hM1, hM2⟩ := hLq
        have hk : x % (L : Int) = ((x.toNat % L : Nat) : Int) := by
          have e : x = (x.toNat : Int) := by omega
          rw [e]; rfl
        have hk' : x.tmod (L : Int) = ((x.toNat % L : Nat) : Int) := by rw [Int.tmod_eq_emod_of_nonneg x0]; exact hk
        have hkl := Nat.mod_lt x.toNat hL1
        obtain ⟨k, hkk⟩ : ∃ k, x.toNat % L = k := ⟨_, rfl⟩
        rw [hkk] at hk hk' hkl
        have hj : x % (M : Int) = ((x.toNat % M : Nat) : Int) := by
          have e : x = (x.toNat : Int) := by omega
          rw [e]; rfl
        have hj' : x.tmod (M : Int) = ((x.toNat % M : Nat) : Int) := by rw [Int.tmod_eq_emod_of_nonneg x0]; exact hj
        have hjm := Nat.mod_lt x.toNat hM1
        obtain ⟨j, hjj⟩ : ∃ j, x.toNat % M = j := ⟨_, rfl⟩
        rw [hjj] at hj hj' hjm
        have HKM := Lib.hid (And.intro hj hj')
        have hMne : ¬ (M : Int) = 0 := by omega
        clear hj hj' hjj
        have hLne : ¬ (L : Int) = 0 := by omega
        have hin1 : (i : Int) < n1 := by omega
        rw [hL, hM]
        have HLL := Lib.hid hL
        have HMM := Lib.hid hM
        clear hcu hx hkk hL hM hsu
        go_upto_region 10 with fail
        have HBX1 : Hid (∀ W, Below wr.heap.size wr W → Byt W wr.heap.size (some ⟨bh, 0, none⟩) k ch (P.take k)) := Lib.hid (fun W hW => row_cut1 (show Mine wr w.heap.size (.slice (some ⟨bh, 0, none⟩) L ch) L P from HLL.out ▸ HP.out) hW (by omega) (by omega) (by omega))
        have HBX2 : Hid (∀ W, Below wr.heap.size wr W → Byt W wr.heap.size (some ⟨bh, k, none⟩) (L - k) (ch - k) (P.drop k)) := Lib.hid (fun W hW => row_cut2 (show Mine wr w.heap.size (.slice (some ⟨bh, 0, none⟩) L ch) L P from HLL.out ▸ HP.out) hW (by omega) (by omega))
        have HA1 : Hid (∀ C, Below wr.heap.size wr ((wr.drewN 1).alloc (.cells C 5))) := Lib.hid (fun C => (below_drewN (Below.refl _ _) 1).alloc (Nat.le_refl _) _)
        have HA2 : Hid (∀ C D, Below wr.heap.size wr (((wr.drewN 1).alloc (.cells C 5)).alloc (.cells D 5))) := Lib.hid (fun C D => (HA1.out C).alloc (by simp) _)
        have hcut1 := cut_low bh L ch k (by omega) (by omega)
        have hcut2 := cut_high bh L ch k (by omega) (by omega)
        go_region_law (first | (refine step_am rfl (.tmp 52) (.tmp 55) rfl (.slice (some ⟨wr.heap.size + 1, 0, none⟩) 0 0) (some ⟨bh, 0, none⟩) k ch rfl rfl (mine_empty2 ((wr.drewN 1).alloc (.cells #[.int .u8 32] 5)) (wr.heap.size + 1) wr.heap.size (World.size_alloc _ _) (Nat.le_succ _)) (HBX1.out _ (HA2.out _ _)) (by omega) (by first | (simp; done) | (simp; omega)) ?_; intro v6 w6 hm6 hb6 hf6 ho6; have HM6 := Lib.hid hm6; have HB6 := Lib.hid ((HA2.out _ _).trans hb6); have HLI := Lib.hid (((byt_lit0 (wr.drewN 1) 32 (by omega)).below ((Below.refl _ _).alloc (Nat.le_refl _) (.cells #[] 5)) (by rw [World.size_alloc]; exact Nat.le_refl _)).keep1 (hf6 _ (by simp; omega) (by simp [Value.ownBlock]))); clear hm6 hb6 hf6 ho6) | (refine step_am rfl (.tmp 52) (.tmp 55) rfl (.slice (some ⟨wr.heap.size, 0, none⟩) 0 0) (some ⟨bh, 0, none⟩) k ch rfl rfl ((mine_empty (wr.drewN 1) wr.heap.size (Nat.le_refl _)).kept ((Below.refl _ _).alloc (Nat.le_refl _) (.cells #[.int .u8 32] 5))) (HBX1.out _ (HA2.out _ _)) (by omega) (by first | (simp; done) | (simp; omega)) ?_; intro v6 w6 hm6 hb6 hf6 ho6; have HM6 := Lib.hid hm6; have HB6 := Lib.hid ((HA2.out _ _).trans hb6); have HLI := Lib.hid ((byt_lit2 ((wr.drewN 1).alloc (.cells #[] 5)) (wr.heap.size + 1) 32 (World.size_alloc _ _) (by omega)).keep1 (hf6 _ (by simp) (by simp [Value.ownBlock]))); clear hm6 hb6 hf6 ho6) | (refine step_am rfl (.tmp 52) (.tmp 55) rfl (.slice (some ⟨wr.heap.size, 0, none⟩) 0 0) (some ⟨bh, 0, none⟩) k ch rfl rfl (mine_empty (wr.drewN 1) wr.heap.size (Nat.le_refl _)) (HBX1.out _ (HA1.out _)) (by omega) (by first | (simp; done) | (simp; omega)) ?_; intro v6 w6 hm6 hb6 hf6 ho6; have HM6 := Lib.hid hm6; have HB6 := Lib.hid ((HA1.out _).trans hb6); clear hm6 hb6 hf6 ho6) | (refine step_am rfl (.tmp 56) (.tmp 57) rfl v6 _ 1 1 rfl rfl HM6.out HLI.out (by omega) HB6.out.size ?_; intro v8 w8 hm8 hb8 hf8 ho8; have HM8 := Lib.hid hm8; have HB8 := Lib.hid (HB6.out.trans hb8); clear hm8 hb8 hf8 ho8) | (refine step_am rfl (.tmp 56) (.tmp 57) rfl v6 (some ⟨w6.heap.size, 0, none⟩) 1 1 rfl rfl (HM6.out.kept ((Below.refl _ _).alloc (Nat.le_refl _) (.cells #[.int .u8 32] 5))) (byt_lit0 w6 32 (by omega)) (by omega) (Nat.le_trans HB6.out.size (by first | (simp; done) | (simp; omega))) ?_; intro v8 w8 hm8 hb8 hf8 ho8; have HM8 := Lib.hid hm8; have HB8 := Lib.hid ((HB6.out.alloc HB6.out.size _).trans hb8); clear hm8 hb8 hf8 ho8) | (refine step_am rfl (.tmp 58) (.tmp 61) rfl v8 (some ⟨bh, k, none⟩) (L - k) (ch - k) rfl rfl HM8.out (HBX2.out _ HB8.out) (by omega) HB8.out.size ?_; intro v9 w9 hm9 hb9 hf9 ho9; have HM9 := Lib.hid hm9; have HB9 := Lib.hid (HB8.out.trans hb9); clear hm9 hb9 hf9 ho9))
        all_goals
          clear hcut1 hcut2
          have hq9 := HQ.out.kept HB9.out
          have hsz9 := HB9.out.size
          have cu9 := (HB9.out.cell (p := ⟨b1, o1 + i, none⟩) (Nat.lt_of_lt_of_le hb1lt hb0)).trans cu
          clear hk hk'
          have hj := HKM.out.1
          have hj' := HKM.out.2
          have HQ9 := Lib.hid hq9
          clear hq9 cu
          go_upto_region 12 with fail
          clear hj hj'
          have HBX1x : Hid (∀ W, Below w9.heap.size w9 W → Byt W w9.heap.size (some ⟨ba, 0, none⟩) j ca (Q.take j)) := Lib.hid (fun W hW => row_cut1 (show Mine w9 w.heap.size (.slice (some ⟨ba, 0, none⟩) M ca) M Q from HMM.out ▸ HQ9.out) hW (by omega) (by omega) (by omega))
          have HBX2x : Hid (∀ W, Below w9.heap.size w9 W → Byt W w9.heap.size (some ⟨ba, j, none⟩) (M - j) (ca - j) (Q.drop j)) := Lib.hid (fun W hW => row_cut2 (show Mine w9 w.heap.size (.slice (some ⟨ba, 0, none⟩) M ca) M Q from HMM.out ▸ HQ9.out) hW (by omega) (by omega))
          have HA1x : Hid (∀ C, Below w9.heap.size w9 ((w9.drewN 1).alloc (.cells C 5))) := Lib.hid (fun C => (below_drewN (Below.refl _ _) 1).alloc (Nat.le_refl _) _)
          have HA2x : Hid (∀ C D, Below w9.heap.size w9 (((w9.drewN 1).alloc (.cells C 5)).alloc (.cells D 5))) := Lib.hid (fun C D => (HA1x.out C).alloc (by simp) _)
          have hcut1x := cut_low ba M ca j (by omega) (by omega)
          have hcut2x := cut_high ba M ca j (by omega) (by omega)
          go_region_law (first | (refine step_am rfl (.tmp 71) (.tmp 74) rfl (.slice (some ⟨w9.heap.size + 1, 0, none⟩) 0 0) (some ⟨ba, 0, none⟩) j ca rfl rfl (mine_empty2 ((w9.drewN 1).alloc (.cells #[.int .u8 10] 5)) (w9.heap.size + 1) w9.heap.size (World.size_alloc _ _) (Nat.le_succ _)) (HBX1x.out _ (HA2x.out _ _)) (by omega) (by first | (simp; done) | (simp; omega)) ?_; intro v6x w6x hm6 hb6 hf6 ho6; have HM6x := Lib.hid hm6; have HB6x := Lib.hid ((HA2x.out _ _).trans hb6); have HLIx := Lib.hid (((byt_lit0 (w9.drewN 1) 10 (by omega)).below ((Below.refl _ _).alloc (Nat.le_refl _) (.cells #[] 5)) (by rw [World.size_alloc]; exact Nat.le_refl _)).keep1 (hf6 _ (by simp; omega) (by simp [Value.ownBlock]))); clear hm6 hb6 hf6 ho6) | (refine step_am rfl (.tmp 71) (.tmp 74) rfl (.slice (some ⟨w9.heap.size, 0, none⟩) 0 0) (some ⟨ba, 0, none⟩) j ca rfl rfl ((mine_empty (w9.drewN 1) w9.heap.size (Nat.le_refl _)).kept ((Below.refl _ _).alloc (Nat.le_refl _) (.cells #[.int .u8 10] 5))) (HBX1x.out _ (HA2x.out _ _)) (by omega) (by first | (simp; done) | (simp; omega)) ?_; intro v6x w6x hm6 hb6 hf6 ho6; have HM6x := Lib.hid hm6; have HB6x := Lib.hid ((HA2x.out _ _).trans hb6); have HLIx := Lib.hid ((byt_lit2 ((w9.drewN 1).alloc (.cells #[] 5)) (w9.heap.size + 1) 10 (World.size_alloc _ _) (by omega)).keep1 (hf6 _ (by simp) (by simp [Value.ownBlock]))); clear hm6 hb6 hf6 ho6) | (refine step_am rfl (.tmp 71) (.tmp 74) rfl (.slice (some ⟨w9.heap.size, 0, none⟩) 0 0) (some ⟨ba, 0, none⟩) j ca rfl rfl (mine_empty (w9.drewN 1) w9.heap.size (Nat.le_refl _)) (HBX1x.out _ (HA1x.out _)) (by omega) (by first | (simp; done) | (simp; omega)) ?_; intro v6x w6x hm6 hb6 hf6 ho6; have HM6x := Lib.hid hm6; have HB6x := Lib.hid ((HA1x.out _).trans hb6); clear hm6 hb6 hf6 ho6) | (refine step_am rfl (.tmp 75) (.tmp 76) rfl v6x _ 1 1 rfl rfl HM6x.out HLIx.out (by omega) HB6x.out.size ?_; intro v8x w8x hm8 hb8 hf8 ho8; have HM8x := Lib.hid hm8; have HB8x := Lib.hid (HB6x.out.trans hb8); clear hm8 hb8 hf8 ho8) | (refine step_am rfl (.tmp 75) (.tmp 76) rfl v6x (some ⟨w6x.heap.size, 0, none⟩) 1 1 rfl rfl (HM6x.out.kept ((Below.refl _ _).alloc (Nat.le_refl _) (.cells #[.int .u8 10] 5))) (byt_lit0 w6x 10 (by omega)) (by omega) (Nat.le_trans HB6x.out.size (by first | (simp; done) | (simp; omega))) ?_; intro v8x w8x hm8 hb8 hf8 ho8; have HM8x := Lib.hid hm8; have HB8x := Lib.hid ((HB6x.out.alloc HB6x.out.size _).trans hb8); clear hm8 hb8 hf8 ho8) | (refine step_am rfl (.tmp 77) (.tmp 80) rfl v8x (some ⟨ba, j, none⟩) (M - j) (ca - j) rfl rfl HM8x.out (HBX2x.out _ HB8x.out) (by omega) HB8x.out.size ?_; intro v9x w9x hm9 hb9 hf9 ho9; have HM9x := Lib.hid hm9; have HB9x := Lib.hid (HB8x.out.trans hb9); clear hm9 hb9 hf9 ho9))
          all_goals
            clear hcut1x hcut2x
            go_wp2_with fail
            exact ⟨⟨i + 1, _, _, hlt, by go_num, Lib.hid ((HM9.out.kept HB9x.out).base6 hb0).cast6, Lib.hid (HM9x.out.base6 (Nat.le_trans hb0 hsz9)).cast6, Lib.hid ⟨(strip_put P k 32 (by decide)).trans HSP.out.1, by rw [put_len, HSP.out.2]; omega⟩, Lib.hid ⟨(strip_put Q j 10 (by decide)).trans HSQ.out.1, by rw [put_len, HSQ.out.2]; omega⟩, Lib.hid (fun b h1 h2 => by have := HM9.out.lt b h1; have := HM9x.out.low b h2; omega), Lib.hid (HBE.out.trans ((HB9.out.mono hb0).trans (HB9x.out.mono (Nat.le_trans hb0 hsz9))))⟩, by simp [intOf]; omega⟩
      · have hin1 : ¬ (i : Int) < n1 := by omega
        have hLp : 0 < P.length ∧ P.length ≤ 1100 := by have := HSP.out.2; have := HL1.out; omega
        have hLq : 0 < Q.length ∧ Q.length ≤ 1100 := by have := HSQ.out.2; have := HL2.out; omega
        obtain ⟨bh, ch, rfl, hbh, hlh, hch⟩ := HP.out.put_ hLp.1
        obtain ⟨ba, ca, rfl, hba, hla, hca⟩ := HQ.out.put_ hLq.1
        have hne : bh ≠ ba := fun e => HAP.out bh rfl (by simp [Value.ownBlock, e])
        have HRG := Lib.hid (HB.out w (Below.refl _ _)).rng
        have HR1 := Lib.hid (unhx_ok zs P ms n HRG.out HLEN.out (HSP.out.1.trans HX.out.symm))
        have HR2 := Lib.hid (u85_ok zs Q ms n HRG.out HLEN.out (HSQ.out.1.trans HY.out.symm))
        have HHP := Lib.hid hLp
        have HHQ := Lib.hid hLq
        have HA := Lib.hid (HP.out.appendK (HM.out wr HBE.out) 23 (by omega) hb0)
        have HNE := Lib.hid hne
        have HLO := Lib.hid (And.intro hlh hla)
        clear hne hLp hLq
        have hn63 : n ≤ 9223372036854775807 := hn
        have hq1 : ∀ W, Byt W W.heap.size (some ⟨bh, 0, none⟩) P.length ch P → 0 < n → Calls Try.prog 9 #[.slice (some ⟨bh, 0, none⟩) P.length ch, .int .i64 ((n : Int) - 1)] W (ReadPost W ([], 7)) := fun W hW h0 => pUnhex _ _ _ _ P W hW (by have := HHP.out; omega) (by omega) (by omega) _ (unhx_bad6 zs P n HRG.out HLEN.out h0 (HSP.out.1.trans HX.out.symm))
        have hq2 : ∀ W, Byt W W.heap.size (some ⟨ba, 0, none⟩) Q.length ca Q → 0 < n → Calls Try.prog 10 #[.slice (some ⟨ba, 0, none⟩) Q.length ca, .int .i64 ((n : Int) - 1)] W (ReadPost W ([], 7)) := fun W hW h0 => pUnbase85 _ _ _ _ Q W hW (by have := HHQ.out; omega) (by omega) (by omega) _ (u85_bad6 zs Q n HRG.out HLEN.out h0 (HSQ.out.1.trans HY.out.symm))
        have HQ1 := Lib.hid hq1
        have HQ2 := Lib.hid hq2
        clear hq1 hq2 HAP H1 H3 HU hbh hba hlh hla hch hca
        have e0 : 0 < n → IntKind.i64.wrap ((n : Int) - 1) = (n : Int) - 1 := fun h => IntWalk.i64_in _ (by omega)
        go_upto_region 17 with (first
          | (at_builtin; obtain ⟨v3, w3, hrun, hm3, hb3, hf3, hk3⟩ := HA.out; obtain ⟨A3, c3, rfl, hy3⟩ := hm3.byt; refine Lib.wpList_append_run_sl _ rfl (.tmp 83) (.tmp 84) 23 rfl _ _ rfl rfl hrun ?_; clear hrun; have HB3 := Lib.hid (HBE.out.trans hb3); have HK3 := Lib.hid hk3; have HZ3 := Lib.hid hb3.size; have HQ3 := Lib.hid (HQ.out.same6 fun b hb hlt => hf3 b hlt (by have := HNE.out; simp [Value.ownBlock] at hb; omega)); have HU1 := Lib.hid (pUnhex A3 (P.length + n2) c3 n (P ++ ms) w3 hy3 (by have := HHP.out; omega) (by omega) (by omega) _ HR1.out); clear hm3 hb3 hf3 hk3 hy3)
          | (at_builtin; obtain ⟨v5, w5, hrun, hm5, hb5, hf5, hk5⟩ := HA2.out; obtain ⟨A5, c5, rfl, hy5⟩ := hm5.byt; refine Lib.wpList_append_run_sl _ rfl (.tmp 92) (.tmp 93) 23 rfl _ _ rfl rfl hrun ?_; clear hrun; have HB5 := Lib.hid (HB4.out.trans hb5); have HX5 := Lib.hid ((HX4.out.far6 hf5 HFR.out (Nat.lt_of_lt_of_le HLO.out.2 HZ3.out)).more hb5.size); have HK5 := Lib.hid (HK4.out.keep1 (hf5 bh (Nat.lt_of_lt_of_le HLO.out.1 HZ4.out) HNE.out)); have HJ5 := Lib.hid hk5; have HZ5 := Lib.hid hb5.size; have HU2 := Lib.hid (pUnbase85 A5 (Q.length + n2) c5 n (Q ++ ms) w5 hy5 (by have := HHQ.out; omega) (by omega) (by omega) _ HR2.out); clear hm5 hb5 hf5 hk5 hy5)
          | (go_at_call 9; refine HU1.out.mono ?_; intro r w4 hr4; obtain ⟨A7, c7, rfl, hy7, hb7, hfr7⟩ := hr4.at_ HLEN.out; clear hr4 HU1; have HX4 := Lib.hid hy7; have HFR := Lib.hid hfr7; have HB4 := Lib.hid (HB3.out.trans (hb7.mono HB3.out.size)); have HZ4 := Lib.hid (Nat.le_trans HZ3.out hb7.size); have HK4 := Lib.hid (HK3.out.below hb7 HZ3.out); have HQ4 := Lib.hid (HQ3.out.kept hb7); have HA2 := Lib.hid (HQ4.out.appendK (HM.out w4 HB4.out) 23 (by have := HHQ.out; omega) HB4.out.size); clear hy7 hb7 hfr7)
          | (go_at_call 10; refine HU2.out.mono ?_; intro r w6 hr6; obtain ⟨A8, c8, rfl, hy8, hb8, _⟩ := hr6.at_ HLEN.out; clear hr6 HU2; have HB6 := Lib.hid (HB5.out.trans (hb8.mono HB5.out.size)); have HX6 := Lib.hid ((HX5.out.below hb8 (Nat.le_refl _)).more hb8.size); have HY6 := Lib.hid hy8; have HK6 := Lib.hid ((HK5.out.below hb8 (Nat.le_trans HZ4.out HZ5.out)).more (Nat.le_trans (Nat.le_trans HZ4.out HZ5.out) hb8.size)); have HJ6 := Lib.hid ((HJ5.out.below hb8 HZ5.out).more (Nat.le_trans HZ5.out hb8.size)); have HE1 := Lib.hid (refSame_yes A7 A n c7 _ c _ zs w6 HX6.out (HB.out w6 HB6.out) hn63); clear hy8 hb8)
          | (go_at_call 11; with_reducible refine HE1.out.mono ?_; (rintro r w7 ⟨rfl, q7, rfl⟩); clear HE1; have HE2 := Lib.hid (refSame_yes A8 A n c8 _ c _ zs _ (HY6.out.drewN q7) ((HB.out _ HB6.out).drewN q7) hn63))
          | (go_at_call 11; with_reducible refine HE2.out.mono ?_; (rintro r w8 ⟨rfl, q8, rfl⟩); clear HE2))
        rcases Nat.eq_zero_or_pos n with hz | hz
        all_goals
          first
            | (have hz0 : (n : Int) = 0 := by omega
               clear e0)
            | (have hz0 : ¬ (n : Int) = 0 := by omega
               replace e0 := e0 hz
               have HPOS := Lib.hid hz)
          clear hz
          go_wp2_with (first
            | (go_at_call 9; refine (HQ1.out _ (HK6.out.drewN _) HPOS.out).mono ?_; intro r w9 hr9; obtain ⟨A9, c9, rfl, hb9⟩ := hr9.bad_; clear hr9; have HJ9 := Lib.hid (((HJ6.out.drewN _).below hb9 (Nat.le_refl _)).more hb9.size); have HB9 := Lib.hid ((below_drewN HB6.out _).trans (hb9.mono HB6.out.size)); clear hb9 HQ1)
            | (go_at_call 10; refine (HQ2.out _ HJ9.out HPOS.out).mono ?_; intro r w10 hr10; obtain ⟨A10, c10, rfl, hb10⟩ := hr10.bad_; clear hr10; have HB10 := Lib.hid (HB9.out.trans (hb10.mono HB9.out.size)); clear hb10))
          go_ret
          exact ⟨rfl, by first | exact HB10.out | exact below_drewN HB6.out _⟩
  · by_cases h0 : n ≤ 500
    · have hn0i : ¬ (500 : Int) < n := by omega
      by_cases h1 : n1 ≤ 30
      · have hn1i : ¬ (30 : Int) < n1 := by omega
        have hn2i : (30 : Int) < n2 := by omega
        go_enter Try.func6, Try.ntmps6
        go_wp2_with (go_at_call 8; refine HAW.out.mono ?_; (rintro r w0 ⟨rfl, hb0⟩); have HB0 := Lib.hid hb0; clear hb0)
        go_ret
        exact ⟨rfl, HB0.out⟩
      · have hn1i : (30 : Int) < n1 := by omega
        go_enter Try.func6, Try.ntmps6
        go_wp2_with (go_at_call 8; refine HAW.out.mono ?_; (rintro r w0 ⟨rfl, hb0⟩); have HB0 := Lib.hid hb0; clear hb0)
        go_ret
        exact ⟨rfl, HB0.out⟩
    · have hn0i : (500 : Int) < n := by omega
      go_enter Try.func6, Try.ntmps6
      go_wp2_with (go_at_call 8; refine HAW.out.mono ?_; (rintro r w0 ⟨rfl, hb0⟩); have HB0 := Lib.hid hb0; clear hb0)
      go_ret
      exact ⟨rfl, HB0.out⟩
set_option maxRecDepth 100000 in
theorem back_lifted (os : Os) (started : os.Started) (H : Type) (enc : TypeId × Value → H) :
    ReturnsInHanded {} Try.checked os 6 .any (Rows.asciiBackSpec.pre6 enc Try.prog Try.f6 Rows.asciiBackRow.domain false) (Rows.asciiBackSpec.post enc Try.prog Try.f6 false true false false) := by
  refine returnsInHanded_of_change (C := Try.checked) own started (by kernel_rfl) Try.func6
    (ChangeSpec.witness6 (enc := enc) (C := Try.checked) false ⟨#[], #[.slice none 0 0, .slice none 0 0, .slice none 0 0], []⟩ 8 (by kernel_rfl) (by kernel_rfl) (by kernel_rfl) (by kernel_rfl)) ?_
  intro W base args ds gs before hval0 hW hcnd _
  have hval : ∀ (j : Nat) t v, Try.f6.params[j]? = some t → args[j]? = some v → Value.okWide Try.prog W .any base t v := hval0
  have hW' := hW
  obtain ⟨p, q, hA0, hV, rfl, hfz, hnd⟩ := hW
  have hA : DataW.TrodAll enc Try.prog W 0 (fun _ => true) true Try.f6.params.toList args.toList ds p := hA0
  rw [Try.params6] at hA hval
  obtain ⟨v0, vs0, d0, ds0, p0, q0, hargs, rfl, rfl, h0, r0⟩ := trodAll_cons hA
  obtain ⟨v1, vs1, d1, ds1, p1, q1, rfl, rfl, rfl, h1, r1⟩ := trodAll_cons r0
  obtain ⟨v2, vs2, d2, ds2, p2, q2, rfl, rfl, rfl, h2, r2⟩ := trodAll_cons r1
  obtain ⟨rfl, rfl, rfl⟩ := trodAll_nil r2
  obtain rfl : args = #[v0, v1, v2] := by cases args; simp_all
  obtain ⟨rfl, rfl⟩ := trodVars_none hV
  obtain ⟨a0, len0, cap0, rfl⟩ := okWide_slice Try.underlying23 (hval 0 23 v0 rfl rfl)
  obtain ⟨zs0, hz0, hcm0⟩ := open_bytes h0 (fun _ => rfl)
  have lt0 : ∀ x ∈ p0, x.block < W.heap.size := by obtain ⟨m, hm⟩ := h0; exact DataW.trod_lt m _ _ _ hm
  obtain ⟨a1, len1, cap1, rfl⟩ := okWide_slice Try.underlying34 (hval 1 34 v1 rfl rfl)
  obtain ⟨zs1, hz1, hcm1⟩ := open_shorts h1 (fun _ => rfl)
  have lt1 : ∀ x ∈ p1, x.block < W.heap.size := by obtain ⟨m, hm⟩ := h1; exact DataW.trod_lt m _ _ _ hm
  obtain ⟨a2, len2, cap2, rfl⟩ := okWide_slice Try.underlying23 (hval 2 23 v2 rfl rfl)
  obtain ⟨zs2, hz2, hcm2⟩ := open_bytes h2 (fun _ => rfl)
  have lt2 : ∀ x ∈ p2, x.block < W.heap.size := by obtain ⟨m, hm⟩ := h2; exact DataW.trod_lt m _ _ _ hm
  have hmx : maxLen = 9223372036854775807 := by decide
  clear hA0 hval0
  refine (back_walk a0 len0 cap0 zs0 a1 len1 cap1 zs1 a2 len2 cap2 zs2 W hz0 (by have := hz0.cap; omega) hz1 (by have := hz1.cap; omega) hz2 (by have := hz2.cap; omega)).mono fun e W' ⟨he, bel⟩ => ?_
  subst he
  exact ⟨_, rfl, _, _, _, [], _, [], hW', trodAll_mk1 (shut_bool Try.underlying4 _), (trodAll_cons_mk (Below.trod laidOut (by kernel_rfl) (of_decide_eq_true (by kernel_rfl)) h0 bel lt0) (trodAll_cons_mk (Below.trod laidOut (by kernel_rfl) (of_decide_eq_true (by kernel_rfl)) h1 bel lt1) (trodAll_cons_mk (Below.trod laidOut (by kernel_rfl) (of_decide_eq_true (by kernel_rfl)) h2 bel lt2) trodAll_mk0))), rfl, bel.frame _, fun h => by cases h⟩

/-- AsciiBack: it answers true. -/
theorem back_holds : Rows.AsciiBackSaid :=
  OpenClaim.holds_of_wide 6 Try.f6 rfl rfl rfl rfl rfl rfl rfl ⟨rfl, rfl, rfl, rfl, rfl⟩ rfl rfl rfl rfl rfl (by kernel_rfl) Try.func6 (by kernel_rfl)
    (of_decide_eq_true (by kernel_rfl)) (by unfold Func.isWrapper; first | (rw [if_pos (by decide +kernel)]; kernel_rfl) | (rw [if_neg (by decide +kernel)]; exact ⟨rfl, rfl⟩))
    (fun os started H enc _ => back_lifted os started H enc)
#print axioms back_holds

end Go.Proofs.Ytnonldlddgankaa
