/- Contracts of functions that the law calls, and what they lean on (a part). -/
import Derived.Shelf.RegionOpen
import Derived.Test.YtliieeagbpmcgaaDoorPu42
namespace Go.Proofs.YtliieeagbpmcgaaDoor
section
open Go.RowKit Go.BigFrame Go.Sort
set_option linter.unusedVariables false
set_option maxRecDepth 100000
attribute [local go_sem] Oper.semAt_some
mutual
def refsO : Ob → List Int
  | .mk k n b l d => if k = 6 then refsL l else if k = 7 ∨ k = 8 then refsE d else if k = 9 then [n] else []
def refsL : Obs → List Int
  | .nil => []
  | .cons x xs => refsO x ++ refsL xs
def refsE : Ens → List Int
  | .nil => []
  | .cons _ x xs => refsO x ++ refsE xs
end
end

section
open Go.ChangeShapes Go.WideShapes Go.ChangeAt Go.RowKit Go.Deep
set_option linter.unusedVariables false
set_option maxRecDepth 100000
mutual
/-- How much an object is: itself, its bytes, its parts. -/
def bkO : Ob → Nat
  | .mk _ _ b l d => 1 + b.length + bkL l + bkE d
def bkL : Obs → Nat
  | .nil => 0
  | .cons x xs => bkO x + bkL xs
def bkE : Ens → Nat
  | .nil => 0
  | .cons _ x xs => bkO x + bkE xs
end
mutual
theorem bkO_all : ∀ x : Ob, bkO x ≤ 100000000 → okO x ∧ htO x ≤ bkO x ∧ (refsO x).length ≤ bkO x ∧ x.sz ≤ bkO x ∧ 1 ≤ bkO x
  | .mk k n b l d, h => by
    rw [bkO] at h
    obtain ⟨a1, a2, a3, a4, a5⟩ := bkL_all l (by omega)
    obtain ⟨e1, e2, e3, e4, e5⟩ := bkE_all d (by omega)
    unfold okO
    rw [htO, refsO, Ob.sz, bkO]
    refine ⟨⟨by omega, by omega, by omega, a1, e1⟩, by omega, ?_, by omega, by omega⟩
    split
    · omega
    · split
      · omega
      · split
        · simp; omega
        · simp
theorem bkL_all : ∀ l : Obs, bkL l ≤ 100000000 → okL l ∧ htL l ≤ bkL l ∧ (refsL l).length ≤ bkL l ∧ l.sz ≤ bkL l ∧ l.len ≤ bkL l
  | .nil, h => by unfold okL; rw [htL, refsL, Obs.sz, bkL, Obs.len]; simp
  | .cons x xs, h => by
    rw [bkL] at h
    obtain ⟨a1, a2, a3, a4, a5⟩ := bkO_all x (by omega)
    obtain ⟨e1, e2, e3, e4, e5⟩ := bkL_all xs (by omega)
    unfold okL
    rw [htL, refsL, Obs.sz, bkL, Obs.len, List.length_append]
    exact ⟨⟨a1, e1⟩, by omega, by omega, by omega, by omega⟩
theorem bkE_all : ∀ l : Ens, bkE l ≤ 100000000 → okE l ∧ htE l ≤ bkE l ∧ (refsE l).length ≤ bkE l ∧ l.sz ≤ bkE l ∧ l.len ≤ bkE l
  | .nil, h => by unfold okE; rw [htE, refsE, Ens.sz, bkE, Ens.len]; simp
  | .cons s x xs, h => by
    rw [bkE] at h
    obtain ⟨a1, a2, a3, a4, a5⟩ := bkO_all x (by omega)
    obtain ⟨e1, e2, e3, e4, e5⟩ := bkE_all xs (by omega)
    unfold okE
    rw [htE, refsE, Ens.sz, bkE, Ens.len, List.length_append]
    exact ⟨⟨a1, e1⟩, by omega, by omega, by omega, by omega⟩
end
section
variable {H : Type}
theorem bulk_one (d : DataW H) : 1 ≤ Rows.uptoBulk d := by
  cases d with
  | lit l => cases l <;> simp [Rows.uptoBulk]
  | nil => simp [Rows.uptoBulk]
  | ptr d => simp [Rows.uptoBulk]
  | slice elems spare => simp [Rows.uptoBulk]
  | agg parts => simp [Rows.uptoBulk]
  | iface t d => simp [Rows.uptoBulk]
  | map entries => simp [Rows.uptoBulk]
  | held h => simp [Rows.uptoBulk]
theorem bulk_len : ∀ l : List (DataW H), l.length ≤ Rows.uptoBulkAll l
  | [] => by simp [Rows.uptoBulkAll]
  | d :: l => by
    have h1 := bulk_one d
    have h2 := bulk_len l
    simp only [Rows.uptoBulkAll, List.length_cons]; omega
theorem obs_ofB {W : World} {S : Nat → Prop} (g : Nat) : ∀ (ds : List (DataW H)) (o : Nat), (∀ i d, ds[i]? = some d → ∃ x c0 c1 c2 c3 c4, W.cell? ⟨g, o + i * 5, none⟩ = some c0 ∧ W.cell? ⟨g, o + i * 5 + 1, none⟩ = some c1 ∧ W.cell? ⟨g, o + i * 5 + 2, none⟩ = some c2 ∧ W.cell? ⟨g, o + i * 5 + 3, none⟩ = some c3 ∧ W.cell? ⟨g, o + i * 5 + 4, none⟩ = some c4 ∧ ObR W S x c0 c1 c2 c3 c4 ∧ bkO x ≤ Rows.uptoBulk d) → ∃ l : Obs, l.len = ds.length ∧ ObsR W S l g o ∧ bkL l ≤ Rows.uptoBulkAll ds
  | [], o, _ => ⟨.nil, rfl, by unfold ObsR; trivial, by rw [bkL]; exact Nat.zero_le _⟩
  | d :: ds, o, h => by
    obtain ⟨x, c0, c1, c2, c3, c4, k0, k1, k2, k3, k4, hx, hb⟩ := h 0 d rfl
    obtain ⟨l, hl, hr, hbl⟩ := obs_ofB g ds (o + 5) (fun i d' hi => by
      have := h (i + 1) d' (by simpa using hi)
      rw [show o + (i + 1) * 5 = o + 5 + i * 5 by omega] at this
      exact this)
    refine ⟨.cons x l, by rw [Obs.len, hl]; rfl, ?_, by rw [bkL, Rows.uptoBulkAll]; omega⟩
    unfold ObsR
    exact ⟨⟨c0, c1, c2, c3, c4, by simpa using k0, by simpa using k1, by simpa using k2, by simpa using k3, by simpa using k4, hx⟩, hr⟩
theorem ens_ofB {W : World} {S : Nat → Prop} (g : Nat) : ∀ (ds : List (DataW H)) (o : Nat), (∀ i d, ds[i]? = some d → ∃ s x c0 c1 c2 c3 c4, W.cell? ⟨g, o + i * 6, none⟩ = some (.string s) ∧ W.cell? ⟨g, o + i * 6 + 1, none⟩ = some c0 ∧ W.cell? ⟨g, o + i * 6 + 2, none⟩ = some c1 ∧ W.cell? ⟨g, o + i * 6 + 3, none⟩ = some c2 ∧ W.cell? ⟨g, o + i * 6 + 4, none⟩ = some c3 ∧ W.cell? ⟨g, o + i * 6 + 5, none⟩ = some c4 ∧ ObR W S x c0 c1 c2 c3 c4 ∧ bkO x ≤ Rows.uptoBulk d) → ∃ l : Ens, l.len = ds.length ∧ EnsR W S l g o ∧ bkE l ≤ Rows.uptoBulkAll ds
  | [], o, _ => ⟨.nil, rfl, by unfold EnsR; trivial, by rw [bkE]; exact Nat.zero_le _⟩
  | d :: ds, o, h => by
    obtain ⟨s, x, c0, c1, c2, c3, c4, ks, k0, k1, k2, k3, k4, hx, hb⟩ := h 0 d rfl
    obtain ⟨l, hl, hr, hbl⟩ := ens_ofB g ds (o + 6) (fun i d' hi => by
      have := h (i + 1) d' (by simpa using hi)
      rw [show o + (i + 1) * 6 = o + 6 + i * 6 by omega] at this
      exact this)
    refine ⟨.cons s x l, by rw [Ens.len, hl]; rfl, ?_, by rw [bkE, Rows.uptoBulkAll]; omega⟩
    unfold EnsR
    exact ⟨⟨c0, c1, c2, c3, c4, by simpa using ks, by simpa using k0, by simpa using k1, by simpa using k2, by simpa using k3, by simpa using k4, hx⟩, hr⟩
variable {enc : TypeId × Value → H} {W : World} {base : Nat} {sp : Nat → Bool} {held : Bool}
theorem slice_elsB {e t : TypeId} {fuel size : Nat} {c : Value} {x : DataW H × List MemPlace} (ht : Tryd.prog.underlying t = some (.slice e)) (hce : Tryd.prog.cellsOf e = size) (hs : 0 < size) (h : DataW.trod enc Tryd.prog W base sp held fuel t [c] = some x) :
    ∃ A len cap ds, c = .slice A len cap ∧ (len ≤ cap ∧ cap ≤ 9223372036854775807) ∧ ds.length = len ∧ Rows.uptoBulkAll ds + 1 ≤ Rows.uptoBulk x.1 ∧ (0 < len → ∃ g o m, A = some ⟨g, o, none⟩ ∧ g < W.heap.size ∧ m < fuel ∧ ∀ i d, ds[i]? = some d → ∃ cs y, y.1 = d ∧ cs.length = size ∧ DataW.trod enc Tryd.prog W base sp held m e cs = some y ∧ ∀ j, j < size → W.cell? ⟨g, o + i * size + j, none⟩ = cs[j]?) := by
  have hmx : maxLen = 9223372036854775807 := by decide
  rcases DataW.trod_slice ht h with ⟨h0, hx⟩ | ⟨a, len, cap, elems, rest, n, hf, hc, hx, _, hl, hm, hel, hi, _⟩
  · injection h0 with h0
    exact ⟨none, 0, 0, [], h0, by omega, rfl, by rw [Rows.uptoBulkAll]; exact bulk_one _, fun h => absurd h (Nat.lt_irrefl _)⟩
  · injection hc with hc
    have one : ∀ i d, (elems.map (·.1))[i]? = some d → ∃ cs y, y.1 = d ∧ cs.length = size ∧ DataW.trod enc Tryd.prog W base sp held n e cs = some y ∧ ∀ j, j < size → W.cell? ((a.add (i * size)).add j) = cs[j]? := fun i d hd => by
      rw [List.getElem?_map, Option.map_eq_some_iff] at hd
      obtain ⟨y, hy, hyd⟩ := hd
      have hi2 : i < len := by rw [← hel]; exact (List.getElem?_eq_some_iff.1 hy).1
      have h1 := hi i hi2
      rw [hy, Option.bind_eq_some_iff] at h1
      obtain ⟨cs, h2, h3⟩ := h1
      rw [hce] at h2
      obtain ⟨_, h4, h5⟩ := World.cells?_some h2
      exact ⟨cs, y, hyd, h4, h3, h5⟩
    refine ⟨some a, len, cap, elems.map (·.1), hc, ⟨hl, by omega⟩, by rw [List.length_map, hel], ?_, fun h0 => ?_⟩
    · rw [hx]
      simp only [Rows.uptoBulk]
      omega
    · obtain ⟨cs, y, _, h1, _, h3⟩ := one 0 _ (List.getElem?_eq_getElem (by rw [List.length_map, hel]; exact h0))
      have h4 := h3 0 hs
      rw [List.getElem?_eq_getElem (by omega)] at h4
      obtain ⟨g, o, spot⟩ := a
      obtain rfl : spot = none := by simpa [Addr.add] using World.cell?_spot h4
      have hgl : g < W.heap.size := by have := cell_lt h4; simpa [Addr.add] using this
      refine ⟨g, o, n, rfl, hgl, by omega, fun i d hd => ?_⟩
      obtain ⟨cs, y, h0', h1, h2, h3⟩ := one i d hd
      exact ⟨cs, y, h0', h1, h2, fun j hj => by
        have h4 := h3 j hj
        rw [add_plain, add_plain] at h4
        exact h4⟩
theorem open_obB (hsp : ∀ b, sp b = true) : ∀ (fuel : Nat) (cs : List Value) (x : DataW H × List MemPlace), DataW.trod enc Tryd.prog W base sp held fuel 26 cs = some x → ∃ o c0 c1 c2 c3 c4, cs = [c0, c1, c2, c3, c4] ∧ ObR W (fun g => g < W.heap.size) o c0 c1 c2 c3 c4 ∧ bkO o ≤ Rows.uptoBulk x.1 := by
  intro fuel
  induction fuel using Nat.strongRecOn with
  | ind fuel IH =>
    intro cs x hf
    have h5 : Tryd.prog.cellsOf 26 = 5 := by kernel_rfl
    have h6 : Tryd.prog.cellsOf 36 = 6 := by kernel_rfl
    have h1 : Tryd.prog.cellsOf 5 = 1 := by kernel_rfl
    have e1 : Tryd.prog.cellsOf 3 = 1 := by kernel_rfl
    have e2 : Tryd.prog.cellsOf 2 = 1 := by kernel_rfl
    have e3 : Tryd.prog.cellsOf 22 = 1 := by kernel_rfl
    have e4 : Tryd.prog.cellsOf 23 = 1 := by kernel_rfl
    have e5 : Tryd.prog.cellsOf 24 = 1 := by kernel_rfl
    have e6 : Tryd.prog.cellsOf 9 = 1 := by kernel_rfl
    obtain ⟨ys, n, hn, hy, hlen, hyl, hfl⟩ := DataW.trod_struct Tryd.underlying26 hf
    rw [h5] at hlen
    have hys : ys.length = 5 := hyl
    match cs, hlen, ys, hys with
    | [c0, c1, c2, c3, c4], _, [y0, y1, y2, y3, y4], _ =>
      have f0 : DataW.trod enc Tryd.prog W base sp held n 3 (List.take (Tryd.prog.cellsOf 3) [c0, c1, c2, c3, c4]) = some y0 := hfl 0 _ rfl
      have f1 : DataW.trod enc Tryd.prog W base sp held n 2 (List.take (Tryd.prog.cellsOf 2) [c1, c2, c3, c4]) = some y1 := hfl 1 _ rfl
      have f2 : DataW.trod enc Tryd.prog W base sp held n 22 (List.take (Tryd.prog.cellsOf 22) [c2, c3, c4]) = some y2 := hfl 2 _ rfl
      have f3 : DataW.trod enc Tryd.prog W base sp held n 23 (List.take (Tryd.prog.cellsOf 23) [c3, c4]) = some y3 := hfl 3 _ rfl
      have f4 : DataW.trod enc Tryd.prog W base sp held n 24 (List.take (Tryd.prog.cellsOf 24) [c4]) = some y4 := hfl 4 _ rfl
      rw [e1] at f0
      rw [e2] at f1
      rw [e3] at f2
      rw [e4] at f3
      rw [e5] at f4
      obtain ⟨k, g0, _, r0⟩ := DataW.trod_int Tryd.underlying3 f0
      obtain ⟨nn, g1, _, r1⟩ := DataW.trod_int Tryd.underlying2 f1
      obtain ⟨A, len, cap, zs, g2, hb, hcm⟩ := open_part f2 hsp
      obtain ⟨AB, nB, cB, dB, g2', _, hdB, hbB, _⟩ := slice_elsB Tryd.underlying22 h1 (by omega) f2
      obtain ⟨AL, nL, cL, dL, rfl, hcL, hdL, hbL, hL⟩ := slice_elsB Tryd.underlying23 h5 (by omega) f3
      obtain ⟨AD, nD, cD, dD, rfl, hcD, hdD, hbD, hD⟩ := slice_elsB Tryd.underlying24 h6 (by omega) f4
      simp at g0 g1 g2
      subst g0 g1 g2
      obtain ⟨-, rfl, -⟩ : A = AB ∧ len = nB ∧ cap = cB := by
        injection g2' with q1 q2 q3
        exact ⟨q1, q2, q3⟩
      have hmx : maxLen = 9223372036854775807 := by decide
      have hl : ∃ l : Obs, l.len = nL ∧ (0 < nL → ∃ g o, AL = some ⟨g, o, none⟩ ∧ g < W.heap.size ∧ ObsR W (fun g => g < W.heap.size) l g o) ∧ bkL l ≤ Rows.uptoBulkAll dL := by
        rcases Nat.eq_zero_or_pos nL with h0 | h0
        · exact ⟨.nil, by rw [h0]; rfl, fun h => absurd h (by omega), by rw [bkL]; exact Nat.zero_le _⟩
        · obtain ⟨g, o, m, e, hg, hm, hi⟩ := hL h0
          obtain ⟨l, h1, h2, h3⟩ := obs_ofB (W := W) (S := fun g => g < W.heap.size) g dL o (fun i d hid => by
            obtain ⟨cs, y, h0, h1, h2, h3⟩ := hi i d hid
            obtain ⟨x, d0, d1, d2, d3, d4, rfl, hx, hbx⟩ := IH m (by omega) cs y h2
            exact ⟨x, d0, d1, d2, d3, d4, h3 0 (by omega), h3 1 (by omega), h3 2 (by omega), h3 3 (by omega), h3 4 (by omega), hx, by rw [← h0]; exact hbx⟩)
          exact ⟨l, by rw [h1, hdL], fun _ => ⟨g, o, e, hg, h2⟩, h3⟩
      have hd : ∃ l : Ens, l.len = nD ∧ (0 < nD → ∃ g o, AD = some ⟨g, o, none⟩ ∧ g < W.heap.size ∧ EnsR W (fun g => g < W.heap.size) l g o) ∧ bkE l ≤ Rows.uptoBulkAll dD := by
        rcases Nat.eq_zero_or_pos nD with h0 | h0
        · exact ⟨.nil, by rw [h0]; rfl, fun h => absurd h (by omega), by rw [bkE]; exact Nat.zero_le _⟩
        · obtain ⟨g, o, m, e, hg, hm, hi⟩ := hD h0
          obtain ⟨l, h1, h2, h3⟩ := ens_ofB (W := W) (S := fun g => g < W.heap.size) g dD o (fun i d hid => by
            obtain ⟨cs, y, h0, h1, h2, h3⟩ := hi i d hid
            obtain ⟨zs2, n2, hn2, hz2, hlen2, hzl2, hfl2⟩ := DataW.trod_struct Tryd.underlying36 h2
            have hz : zs2.length = 2 := hzl2
            match cs, h1, zs2, hz with
            | [s0, d0, d1, d2, d3, d4], _, [z0, z1], _ =>
              have q0 : DataW.trod enc Tryd.prog W base sp held n2 9 (List.take (Tryd.prog.cellsOf 9) [s0, d0, d1, d2, d3, d4]) = some z0 := hfl2 0 _ rfl
              have q1 : DataW.trod enc Tryd.prog W base sp held n2 26 (List.take (Tryd.prog.cellsOf 26) [d0, d1, d2, d3, d4]) = some z1 := hfl2 1 _ rfl
              rw [e6] at q0
              rw [h5] at q1
              obtain ⟨s, gs, _⟩ := DataW.trod_string Tryd.underlying9 q0
              simp at gs
              subst gs
              obtain ⟨x, b0, b1, b2, b3, b4, eb, hx, hbx⟩ := IH n2 (by omega) _ _ q1
              simp at eb
              obtain ⟨rfl, rfl, rfl, rfl, rfl⟩ := eb
              exact ⟨s, x, d0, d1, d2, d3, d4, h3 0 (by omega), h3 1 (by omega), h3 2 (by omega), h3 3 (by omega), h3 4 (by omega), h3 5 (by omega), hx, by
                rw [← h0, hz2]
                simp only [List.map_cons, List.map_nil, Rows.uptoBulk, Rows.uptoBulkAll]
                omega⟩)
          exact ⟨l, by rw [h1, hdD], fun _ => ⟨g, o, e, hg, h2⟩, h3⟩
      obtain ⟨l, hl1, hl2, hl3⟩ := hl
      obtain ⟨d, hd1, hd2, hd3⟩ := hd
      refine ⟨.mk k nn zs l d, _, _, _, _, _, rfl, ?_, ?_⟩
      · unfold ObR
        refine ⟨rfl, rfl, i64_wf r0, i64_wf r1, ⟨A, len, cap, rfl, hb.len, ⟨hb.cap, by have := hb.cap; omega⟩, hb.rng, fun h0 => ?_⟩, ⟨AL, cL, by rw [hl1], by rw [hl1]; exact hcL, by rw [hl1]; exact hl2⟩, ⟨AD, cD, by rw [hd1], by rw [hd1]; exact hcD, by rw [hd1]; exact hd2⟩⟩
        obtain ⟨b, o, e, h1, h2⟩ := hb.cell h0
        exact ⟨b, o, e, h1, h2⟩
      · have hz := hb.len
        have hzb := bulk_len dB
        rw [hy, bkO]
        simp only [List.map_cons, List.map_nil, Rows.uptoBulk, Rows.uptoBulkAll]
        omega
theorem open_objB {cs : Array Value} {d : DataW H} {p : List MemPlace} (h : DataW.Trod enc Tryd.prog W base sp held 26 (.agg cs) d p) (hsp : ∀ b, sp b = true) :
    ∃ x c0 c1 c2 c3 c4, cs = #[c0, c1, c2, c3, c4] ∧ ObR W (fun g => g < W.heap.size) x c0 c1 c2 c3 c4 ∧ bkO x ≤ Rows.uptoBulk d := by
  obtain ⟨fuel, hf⟩ := h
  have hcl : (Value.agg cs).cells.toList = cs.toList := by simp [Value.cells]
  rw [hcl] at hf
  obtain ⟨x, c0, c1, c2, c3, c4, e, hx, hb⟩ := open_obB hsp fuel _ _ hf
  exact ⟨x, c0, c1, c2, c3, c4, by cases cs; simp_all, hx, hb⟩
end
end
end Go.Proofs.YtliieeagbpmcgaaDoor
