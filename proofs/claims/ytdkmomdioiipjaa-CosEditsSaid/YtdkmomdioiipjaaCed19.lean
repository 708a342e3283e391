/- Contracts of functions that the law calls, and what they lean on (a part). -/
import Derived.Test.YtdkmomdioiipjaaCed12
import Derived.Test.YtdkmomdioiipjaaCed16
namespace Go.Proofs.Ytdkmomdioiipjaa
section
open Go.ChangeShapes Go.WideShapes Go.ChangeAt Go.RowKit Go.Deep
set_option linter.unusedVariables false
set_option maxRecDepth 100000
theorem obs_of {W : World} {S : Nat → Prop} (g : Nat) : ∀ (n o : Nat), (∀ i, i < n → ∃ x c0 c1 c2 c3 c4, W.cell? ⟨g, o + i * 5, none⟩ = some c0 ∧ W.cell? ⟨g, o + i * 5 + 1, none⟩ = some c1 ∧ W.cell? ⟨g, o + i * 5 + 2, none⟩ = some c2 ∧ W.cell? ⟨g, o + i * 5 + 3, none⟩ = some c3 ∧ W.cell? ⟨g, o + i * 5 + 4, none⟩ = some c4 ∧ ObR W S x c0 c1 c2 c3 c4) → ∃ l : Obs, l.len = n ∧ ObsR W S l g o
  | 0, o, _ => ⟨.nil, rfl, by unfold ObsR; trivial⟩
  | n + 1, o, h => by
    obtain ⟨x, c0, c1, c2, c3, c4, k0, k1, k2, k3, k4, hx⟩ := h 0 (by omega)
    obtain ⟨l, hl, hr⟩ := obs_of g n (o + 5) (fun i hi => by
      have := h (i + 1) (by omega)
      rw [show o + (i + 1) * 5 = o + 5 + i * 5 by omega] at this
      exact this)
    refine ⟨.cons x l, by rw [Obs.len, hl], ?_⟩
    unfold ObsR
    exact ⟨⟨c0, c1, c2, c3, c4, by simpa using k0, by simpa using k1, by simpa using k2, by simpa using k3, by simpa using k4, hx⟩, hr⟩
theorem ens_of {W : World} {S : Nat → Prop} (g : Nat) : ∀ (n o : Nat), (∀ i, i < n → ∃ s x c0 c1 c2 c3 c4, W.cell? ⟨g, o + i * 6, none⟩ = some (.string s) ∧ W.cell? ⟨g, o + i * 6 + 1, none⟩ = some c0 ∧ W.cell? ⟨g, o + i * 6 + 2, none⟩ = some c1 ∧ W.cell? ⟨g, o + i * 6 + 3, none⟩ = some c2 ∧ W.cell? ⟨g, o + i * 6 + 4, none⟩ = some c3 ∧ W.cell? ⟨g, o + i * 6 + 5, none⟩ = some c4 ∧ ObR W S x c0 c1 c2 c3 c4) → ∃ l : Ens, l.len = n ∧ EnsR W S l g o
  | 0, o, _ => ⟨.nil, rfl, by unfold EnsR; trivial⟩
  | n + 1, o, h => by
    obtain ⟨s, x, c0, c1, c2, c3, c4, ks, k0, k1, k2, k3, k4, hx⟩ := h 0 (by omega)
    obtain ⟨l, hl, hr⟩ := ens_of g n (o + 6) (fun i hi => by
      have := h (i + 1) (by omega)
      rw [show o + (i + 1) * 6 = o + 6 + i * 6 by omega] at this
      exact this)
    refine ⟨.cons s x l, by rw [Ens.len, hl], ?_⟩
    unfold EnsR
    exact ⟨⟨c0, c1, c2, c3, c4, by simpa using ks, by simpa using k0, by simpa using k1, by simpa using k2, by simpa using k3, by simpa using k4, hx⟩, hr⟩
section
variable {H : Type} {enc : TypeId × Value → H} {W : World} {base : Nat} {sp : Nat → Bool} {held : Bool}
theorem slice_els {e t : TypeId} {fuel size : Nat} {c : Value} {x : DataW H × List MemPlace} (ht : Try.prog.underlying t = some (.slice e)) (hce : Try.prog.cellsOf e = size) (hs : 0 < size) (h : DataW.trod enc Try.prog W base sp held fuel t [c] = some x) :
    ∃ A len cap, c = .slice A len cap ∧ (len ≤ cap ∧ cap ≤ 9223372036854775807) ∧ (0 < len → ∃ g o m, A = some ⟨g, o, none⟩ ∧ g < W.heap.size ∧ m < fuel ∧ ∀ i, i < len → ∃ cs y, cs.length = size ∧ DataW.trod enc Try.prog W base sp held m e cs = some y ∧ ∀ j, j < size → W.cell? ⟨g, o + i * size + j, none⟩ = cs[j]?) := by
  have hmx : maxLen = 9223372036854775807 := by decide
  rcases DataW.trod_slice ht h with ⟨h0, _⟩ | ⟨a, len, cap, elems, rest, n, hf, hc, _, _, hl, hm, hel, hi, _⟩
  · injection h0 with h0
    exact ⟨none, 0, 0, h0, by omega, fun h => absurd h (Nat.lt_irrefl _)⟩
  · injection hc with hc
    refine ⟨some a, len, cap, hc, ⟨hl, by omega⟩, fun h0 => ?_⟩
    have one : ∀ i, i < len → ∃ cs y, cs.length = size ∧ DataW.trod enc Try.prog W base sp held n e cs = some y ∧ ∀ j, j < size → W.cell? ((a.add (i * size)).add j) = cs[j]? := fun i hi2 => by
      have h1 := hi i hi2
      rw [List.getElem?_eq_getElem (by omega), Option.bind_eq_some_iff] at h1
      obtain ⟨cs, h2, h3⟩ := h1
      rw [hce] at h2
      obtain ⟨_, h4, h5⟩ := World.cells?_some h2
      exact ⟨cs, _, h4, h3, h5⟩
    obtain ⟨cs, y, h1, _, h3⟩ := one 0 h0
    have h4 := h3 0 hs
    rw [List.getElem?_eq_getElem (by omega)] at h4
    obtain ⟨g, o, spot⟩ := a
    obtain rfl : spot = none := by simpa [Addr.add] using World.cell?_spot h4
    have hgl : g < W.heap.size := by have := cell_lt h4; simpa [Addr.add] using this
    refine ⟨g, o, n, rfl, hgl, by omega, fun i hi2 => ?_⟩
    obtain ⟨cs, y, h1, h2, h3⟩ := one i hi2
    exact ⟨cs, y, h1, h2, fun j hj => by
      have h4 := h3 j hj
      rw [add_plain, add_plain] at h4
      exact h4⟩
theorem open_ob (hsp : ∀ b, sp b = true) : ∀ (fuel : Nat) (cs : List Value) (x : DataW H × List MemPlace), DataW.trod enc Try.prog W base sp held fuel 27 cs = some x → ∃ o c0 c1 c2 c3 c4, cs = [c0, c1, c2, c3, c4] ∧ ObR W (fun g => g < W.heap.size) o c0 c1 c2 c3 c4 := by
  intro fuel
  induction fuel using Nat.strongRecOn with
  | ind fuel IH =>
    intro cs x hf
    have h5 : Try.prog.cellsOf 27 = 5 := by kernel_rfl
    have h6 : Try.prog.cellsOf 32 = 6 := by kernel_rfl
    have e1 : Try.prog.cellsOf 3 = 1 := by kernel_rfl
    have e2 : Try.prog.cellsOf 2 = 1 := by kernel_rfl
    have e3 : Try.prog.cellsOf 23 = 1 := by kernel_rfl
    have e4 : Try.prog.cellsOf 24 = 1 := by kernel_rfl
    have e5 : Try.prog.cellsOf 25 = 1 := by kernel_rfl
    have e6 : Try.prog.cellsOf 9 = 1 := by kernel_rfl
    obtain ⟨ys, n, hn, hy, hlen, hyl, hfl⟩ := DataW.trod_struct Try.underlying27 hf
    rw [h5] at hlen
    match cs, hlen with
    | [c0, c1, c2, c3, c4], _ =>
      have hys : ys.length = 5 := hyl
      have f0 : DataW.trod enc Try.prog W base sp held n 3 (List.take (Try.prog.cellsOf 3) [c0, c1, c2, c3, c4]) = ys[0]? := hfl 0 _ rfl
      have f1 : DataW.trod enc Try.prog W base sp held n 2 (List.take (Try.prog.cellsOf 2) [c1, c2, c3, c4]) = ys[1]? := hfl 1 _ rfl
      have f2 : DataW.trod enc Try.prog W base sp held n 23 (List.take (Try.prog.cellsOf 23) [c2, c3, c4]) = ys[2]? := hfl 2 _ rfl
      have f3 : DataW.trod enc Try.prog W base sp held n 24 (List.take (Try.prog.cellsOf 24) [c3, c4]) = ys[3]? := hfl 3 _ rfl
      have f4 : DataW.trod enc Try.prog W base sp held n 25 (List.take (Try.prog.cellsOf 25) [c4]) = ys[4]? := hfl 4 _ rfl
      rw [e1, List.getElem?_eq_getElem (by omega)] at f0
      rw [e2, List.getElem?_eq_getElem (by omega)] at f1
      rw [e3, List.getElem?_eq_getElem (by omega)] at f2
      rw [e4, List.getElem?_eq_getElem (by omega)] at f3
      rw [e5, List.getElem?_eq_getElem (by omega)] at f4
      obtain ⟨k, g0, _, r0⟩ := DataW.trod_int Try.underlying3 f0
      obtain ⟨nn, g1, _, r1⟩ := DataW.trod_int Try.underlying2 f1
      obtain ⟨A, len, cap, zs, g2, hb, hcm⟩ := open_part f2 hsp
      obtain ⟨AL, nL, cL, rfl, hcL, hL⟩ := slice_els Try.underlying24 h5 (by omega) f3
      obtain ⟨AD, nD, cD, rfl, hcD, hD⟩ := slice_els Try.underlying25 h6 (by omega) f4
      simp at g0 g1 g2
      subst g0 g1 g2
      have hmx : maxLen = 9223372036854775807 := by decide
      have hl : ∃ l : Obs, l.len = nL ∧ (0 < nL → ∃ g o, AL = some ⟨g, o, none⟩ ∧ g < W.heap.size ∧ ObsR W (fun g => g < W.heap.size) l g o) := by
        rcases Nat.eq_zero_or_pos nL with h0 | h0
        · exact ⟨.nil, by rw [h0]; rfl, fun h => absurd h (by omega)⟩
        · obtain ⟨g, o, m, e, hg, hm, hi⟩ := hL h0
          obtain ⟨l, h1, h2⟩ := obs_of (W := W) (S := fun g => g < W.heap.size) g nL o (fun i hin => by
            obtain ⟨cs, y, h1, h2, h3⟩ := hi i hin
            obtain ⟨x, d0, d1, d2, d3, d4, rfl, hx⟩ := IH m (by omega) cs y h2
            exact ⟨x, d0, d1, d2, d3, d4, h3 0 (by omega), h3 1 (by omega), h3 2 (by omega), h3 3 (by omega), h3 4 (by omega), hx⟩)
          exact ⟨l, h1, fun _ => ⟨g, o, e, hg, h2⟩⟩
      have hd : ∃ l : Ens, l.len = nD ∧ (0 < nD → ∃ g o, AD = some ⟨g, o, none⟩ ∧ g < W.heap.size ∧ EnsR W (fun g => g < W.heap.size) l g o) := by
        rcases Nat.eq_zero_or_pos nD with h0 | h0
        · exact ⟨.nil, by rw [h0]; rfl, fun h => absurd h (by omega)⟩
        · obtain ⟨g, o, m, e, hg, hm, hi⟩ := hD h0
          obtain ⟨l, h1, h2⟩ := ens_of (W := W) (S := fun g => g < W.heap.size) g nD o (fun i hin => by
            obtain ⟨cs, y, h1, h2, h3⟩ := hi i hin
            obtain ⟨zs2, n2, hn2, hz2, hlen2, hzl2, hfl2⟩ := DataW.trod_struct Try.underlying32 h2
            match cs, h1 with
            | [s0, d0, d1, d2, d3, d4], _ =>
              have hz : zs2.length = 2 := hzl2
              have q0 : DataW.trod enc Try.prog W base sp held n2 9 (List.take (Try.prog.cellsOf 9) [s0, d0, d1, d2, d3, d4]) = zs2[0]? := hfl2 0 _ rfl
              have q1 : DataW.trod enc Try.prog W base sp held n2 27 (List.take (Try.prog.cellsOf 27) [d0, d1, d2, d3, d4]) = zs2[1]? := hfl2 1 _ rfl
              rw [e6, List.getElem?_eq_getElem (by omega)] at q0
              rw [h5, List.getElem?_eq_getElem (by omega)] at q1
              obtain ⟨s, gs, _⟩ := DataW.trod_string Try.underlying9 q0
              simp at gs
              subst gs
              obtain ⟨x, b0, b1, b2, b3, b4, eb, hx⟩ := IH n2 (by omega) _ _ q1
              simp at eb
              obtain ⟨rfl, rfl, rfl, rfl, rfl⟩ := eb
              exact ⟨s, x, d0, d1, d2, d3, d4, h3 0 (by omega), h3 1 (by omega), h3 2 (by omega), h3 3 (by omega), h3 4 (by omega), h3 5 (by omega), hx⟩)
          exact ⟨l, h1, fun _ => ⟨g, o, e, hg, h2⟩⟩
      obtain ⟨l, hl1, hl2⟩ := hl
      obtain ⟨d, hd1, hd2⟩ := hd
      refine ⟨.mk k nn zs l d, _, _, _, _, _, rfl, ?_⟩
      unfold ObR
      refine ⟨rfl, rfl, i64_wf r0, i64_wf r1, ⟨A, len, cap, rfl, hb.len, ⟨hb.cap, by have := hb.cap; omega⟩, hb.rng, fun h0 => ?_⟩, ⟨AL, cL, by rw [hl1], by rw [hl1]; exact hcL, by rw [hl1]; exact hl2⟩, ⟨AD, cD, by rw [hd1], by rw [hd1]; exact hcD, by rw [hd1]; exact hd2⟩⟩
      obtain ⟨b, o, e, h1, h2⟩ := hb.cell h0
      exact ⟨b, o, e, h1, h2⟩
end
section
variable {H : Type} {enc : TypeId × Value → H} {W : World} {base : Nat} {sp : Nat → Bool} {held : Bool}
theorem open_ens (hsp : ∀ b, sp b = true) {fuel : Nat} {c : Value} {x : DataW H × List MemPlace} (h : DataW.trod enc Try.prog W base sp held fuel 25 [c] = some x) : ∃ (l : Ens) (A : Option Addr) (cap : Nat), c = .slice A l.len cap ∧ EnsV W (fun g => g < W.heap.size) l A cap := by
  have h5 : Try.prog.cellsOf 27 = 5 := by kernel_rfl
  have h6 : Try.prog.cellsOf 32 = 6 := by kernel_rfl
  have e6 : Try.prog.cellsOf 9 = 1 := by kernel_rfl
  obtain ⟨AD, nD, cD, rfl, hcD, hD⟩ := slice_els Try.underlying25 h6 (by omega) h
  have hd : ∃ l : Ens, l.len = nD ∧ (0 < nD → ∃ g o, AD = some ⟨g, o, none⟩ ∧ g < W.heap.size ∧ EnsR W (fun g => g < W.heap.size) l g o) := by
    rcases Nat.eq_zero_or_pos nD with h0 | h0
    · exact ⟨.nil, by rw [h0]; rfl, fun h => absurd h (by omega)⟩
    · obtain ⟨g, o, m, e, hg, hm, hi⟩ := hD h0
      obtain ⟨l, h1, h2⟩ := ens_of (W := W) (S := fun g => g < W.heap.size) g nD o (fun i hin => by
        obtain ⟨cs, y, h1, h2, h3⟩ := hi i hin
        obtain ⟨zs2, n2, hn2, hz2, hlen2, hzl2, hfl2⟩ := DataW.trod_struct Try.underlying32 h2
        match cs, h1 with
        | [s0, d0, d1, d2, d3, d4], _ =>
          have hz : zs2.length = 2 := hzl2
          have q0 : DataW.trod enc Try.prog W base sp held n2 9 (List.take (Try.prog.cellsOf 9) [s0, d0, d1, d2, d3, d4]) = zs2[0]? := hfl2 0 _ rfl
          have q1 : DataW.trod enc Try.prog W base sp held n2 27 (List.take (Try.prog.cellsOf 27) [d0, d1, d2, d3, d4]) = zs2[1]? := hfl2 1 _ rfl
          rw [e6, List.getElem?_eq_getElem (by omega)] at q0
          rw [h5, List.getElem?_eq_getElem (by omega)] at q1
          obtain ⟨s, gs, _⟩ := DataW.trod_string Try.underlying9 q0
          simp at gs
          subst gs
          obtain ⟨x, b0, b1, b2, b3, b4, eb, hx⟩ := open_ob hsp n2 _ _ q1
          simp at eb
          obtain ⟨rfl, rfl, rfl, rfl, rfl⟩ := eb
          exact ⟨s, x, d0, d1, d2, d3, d4, h3 0 (by omega), h3 1 (by omega), h3 2 (by omega), h3 3 (by omega), h3 4 (by omega), h3 5 (by omega), hx⟩)
      exact ⟨l, h1, fun _ => ⟨g, o, e, hg, h2⟩⟩
  obtain ⟨l, hl1, hl2⟩ := hd
  exact ⟨l, AD, cD, by rw [hl1], by rw [hl1]; exact hcD, by rw [hl1]; exact hl2⟩
end
end
end Go.Proofs.Ytdkmomdioiipjaa
