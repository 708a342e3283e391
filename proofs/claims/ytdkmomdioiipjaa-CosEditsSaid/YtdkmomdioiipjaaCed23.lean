/- Contracts of functions that the law calls, and what they lean on (a part). -/
import Derived.Test.YtdkmomdioiipjaaCed1
import Derived.Test.YtdkmomdioiipjaaCed21
namespace Go.Proofs.Ytdkmomdioiipjaa
section
open Go Go.RowKit
set_option linter.unusedVariables false
abbrev Zone := Nat × Nat
/-- True in every world that is the same below N and in the zone. -/
def Stab (N : Nat) (z : Zone) (P : World → Prop) (w : World) : Prop := ∀ w', w.heap.size ≤ w'.heap.size → (∀ b, b < w.heap.size → (b < N ∨ (z.1 ≤ b ∧ b < z.2)) → w'.heap[b]? = w.heap[b]?) → P w'
theorem Stab.now {N : Nat} {z : Zone} {P : World → Prop} {w : World} (h : Stab N z P w) : P w := h w (Nat.le_refl _) (fun _ _ _ => rfl)
theorem Stab.on {N : Nat} {z : Zone} {P : World → Prop} {w w' : World} (h : Stab N z P w) (hs : w.heap.size ≤ w'.heap.size) (hb : ∀ b, b < w.heap.size → (b < N ∨ (z.1 ≤ b ∧ b < z.2)) → w'.heap[b]? = w.heap[b]?) : Stab N z P w' := fun w2 h2 k => h w2 (Nat.le_trans hs h2) fun b hl hb2 => (k b (Nat.lt_of_lt_of_le hl hs) hb2).trans (hb b hl hb2)
theorem Stab.mono {N : Nat} {z : Zone} {P Q : World → Prop} {w : World} (h : Stab N z P w) (hq : ∀ w', P w' → Q w') : Stab N z Q w := fun w' h1 h2 => hq w' (h w' h1 h2)
theorem Stab.const {N : Nat} {z : Zone} {P : Prop} {w : World} (h : P) : Stab N z (fun _ => P) w := fun _ _ _ => h
/-- Not taken over yet. -/
def Unt (eat : Nat → Option Nat) (L : Nat → Bool) (i : Nat) : Prop := ∀ c, eat i = some c → L c = false
section
variable {N : Nat} {W0 : World} {Pr : Nat → (Nat → Value) → Zone → World → Prop} {dep : Nat → List Nat} {eat : Nat → Option Nat}
structure ZF (N : Nat) (W0 : World) (Pr : Nat → (Nat → Value) → Zone → World → Prop) (dep : Nat → List Nat) (eat : Nat → Option Nat) (Zo : Nat → Zone) (L : Nat → Bool) (V : Nat → Value) (w : World) : Prop where
  low : Below N W0 w
  clo : ∀ i, L i = true → ∀ j ∈ dep i, L j = true
  rng : ∀ i, L i = true → Unt eat L i → N ≤ (Zo i).1 ∧ (Zo i).1 ≤ (Zo i).2 ∧ (Zo i).2 ≤ w.heap.size
  at_ : ∀ i, L i = true → Unt eat L i → Stab N (Zo i) (Pr i V (Zo i)) w
  ap : ∀ i j, i ≠ j → L i = true → L j = true → Unt eat L i → Unt eat L j → (Zo i).2 ≤ (Zo j).1 ∨ (Zo j).2 ≤ (Zo i).1 ∨ (Zo i).1 = (Zo i).2 ∨ (Zo j).1 = (Zo j).2
variable {Zo : Nat → Zone} {L : Nat → Bool} {V : Nat → Value} {w w' : World}
theorem ZF.start (hN : N = W0.heap.size) : ZF N W0 Pr dep eat (fun _ => (N, N)) (fun _ => false) (fun _ => undef) W0.drew := by
  subst hN
  exact ⟨(Below.refl _ _).drew, (fun _ h => by cases h), (fun _ h => by cases h), (fun _ h => by cases h), (fun _ _ _ h => by cases h)⟩
theorem Unt.back {i k : Nat} (hi : L i = false) (h : Unt eat (updF L i true) k) : Unt eat L k ∧ eat k ≠ some i := by
  have hne : eat k ≠ some i := fun e => by have := h i e; rw [updF_self] at this; cases this
  refine ⟨fun c hc => ?_, hne⟩
  have := h c hc
  by_cases hci : c = i
  · subst hci; exact absurd hc hne
  · rwa [updF_ne _ _ hci] at this
/-- One more operation: what it changes of what was there lies in the zones that it takes over. -/
theorem ZF.move (loc : ∀ i V V' z w, (∀ j ∈ dep i, V j = V' j) → Pr i V z w → Pr i V' z w) (h : ZF N W0 Pr dep eat Zo L V w) (hN : N = W0.heap.size) {i : Nat} (hi : L i = false) (hdep : ∀ j ∈ dep i, j = i ∨ L j = true) {v : Value} {z : Zone}
    (hos : w'.os = w.os) (htp : w'.tape = w.tape) (hou : w'.output = w.output) (hs : w.heap.size ≤ w'.heap.size)
    (hk : ∀ b, b < w.heap.size → (∀ j, eat j = some i → L j = true → ¬ ((Zo j).1 ≤ b ∧ b < (Zo j).2)) → w'.heap[b]? = w.heap[b]?)
    (hz : N ≤ z.1 ∧ z.1 ≤ z.2 ∧ z.2 ≤ w'.heap.size) (hzn : w.heap.size ≤ z.1 ∨ z.1 = z.2 ∨ ∃ j, eat j = some i ∧ L j = true ∧ (Zo j).1 ≤ z.1 ∧ z.2 ≤ (Zo j).2)
    (hp : Stab N z (Pr i (updF V i v) z) w') : ZF N W0 Pr dep eat (updF Zo i z) (updF L i true) (updF V i v) w' := by
  have unt_j : ∀ j, eat j = some i → Unt eat L j := fun j hj c hc => by
    rw [hj] at hc; injection hc with hc; subst hc; exact hi
  -- what is kept of an operation that was there
  have kz : ∀ k, L k = true → Unt eat L k → eat k ≠ some i → ∀ b, b < w.heap.size → (b < N ∨ ((Zo k).1 ≤ b ∧ b < (Zo k).2)) → w'.heap[b]? = w.heap[b]? := fun k hk1 hk2 hk3 b hb hbz => by
    refine hk b hb fun j hj hlj hin => ?_
    have hkj : k ≠ j := fun e => hk3 (by rw [e]; exact hj)
    have h1 := h.rng j hlj (unt_j j hj)
    rcases hbz with hbN | hbz
    · omega
    · have := h.ap k j hkj hk1 hlj hk2 (unt_j j hj)
      omega
  refine ⟨?_, fun k hk1 j hj => ?_, fun k hk1 hk2 => ?_, fun k hk1 hk2 => ?_, fun a b hab ha hb hua hub => ?_⟩
  · refine ⟨hos.trans h.low.os, htp.trans h.low.tape, hou.trans h.low.output, Nat.le_trans h.low.size hs, fun b hb => ?_⟩
    have hbw : b < w.heap.size ∨ w.heap.size ≤ b := Nat.lt_or_ge _ _
    rcases hbw with hbw | hbw
    · exact (hk b hbw fun j hj hlj hin => by have := h.rng j hlj (unt_j j hj); omega).trans (h.low.block b hb)
    · exact absurd h.low.size (by omega)
  · by_cases hki : k = i
    · subst hki
      rcases hdep j hj with rfl | hlj
      · exact updF_self _ _ _
      · by_cases hjk : j = k
        · rw [hjk]; exact updF_self _ _ _
        · rw [updF_ne _ _ hjk]; exact hlj
    · rw [updF_ne _ _ hki] at hk1
      have := h.clo k hk1 j hj
      by_cases hji : j = i
      · subst hji; rw [hi] at this; cases this
      · rw [updF_ne _ _ hji]; exact this
  · by_cases hki : k = i
    · subst hki; rw [updF_self]; exact hz
    · rw [updF_ne _ _ hki] at hk1 ⊢
      obtain ⟨h1, h2, h3⟩ := h.rng k hk1 (Unt.back hi hk2).1
      exact ⟨h1, h2, Nat.le_trans h3 hs⟩
  · by_cases hki : k = i
    · subst hki; rw [updF_self]; exact hp
    · rw [updF_ne _ _ hki] at hk1 ⊢
      obtain ⟨u1, u2⟩ := Unt.back hi hk2
      have h1 := (h.at_ k hk1 u1).on hs (kz k hk1 u1 u2)
      refine h1.mono fun w2 h2 => loc k V _ _ w2 (fun j hj => ?_) h2
      have hlj := h.clo k hk1 j hj
      rw [updF_ne]
      intro e; subst e; rw [hi] at hlj; cases hlj
  · have key : ∀ a, a ≠ i → updF L i true a = true → Unt eat (updF L i true) a → (Zo a).2 ≤ z.1 ∨ z.2 ≤ (Zo a).1 ∨ (Zo a).1 = (Zo a).2 ∨ z.1 = z.2 := fun a hai ha hua => by
      rw [updF_ne _ _ hai] at ha
      obtain ⟨u1, u2⟩ := Unt.back hi hua
      have h1 := h.rng a ha u1
      rcases hzn with h2 | h2 | ⟨j, hj, hlj, h3, h4⟩
      · exact .inl (by omega)
      · exact .inr (.inr (.inr h2))
      · have hja : a ≠ j := fun e => u2 (by rw [e]; exact hj)
        have := h.ap a j hja ha hlj u1 (unt_j j hj)
        have := h.rng j hlj (unt_j j hj)
        omega
    by_cases hai : a = i
    · subst hai
      rw [updF_self, updF_ne _ _ (Ne.symm hab)]
      have := key b (Ne.symm hab) hb hub
      omega
    · rw [updF_ne _ _ hai]
      by_cases hbi : b = i
      · subst hbi
        rw [updF_self]
        exact key a hai ha hua
      · rw [updF_ne _ _ hbi]
        rw [updF_ne _ _ hai] at ha
        rw [updF_ne _ _ hbi] at hb
        exact h.ap a b hab ha hb (Unt.back hi hua).1 (Unt.back hi hub).1
/-- It changes nothing. -/
theorem ZF.pure (loc : ∀ i V V' z w, (∀ j ∈ dep i, V j = V' j) → Pr i V z w → Pr i V' z w) (h : ZF N W0 Pr dep eat Zo L V w) (hN : N = W0.heap.size) {i : Nat} (hi : L i = false) (hdep : ∀ j ∈ dep i, j = i ∨ L j = true) {v : Value}
    (hp : Stab N (N, N) (Pr i (updF V i v) (N, N)) w) : ZF N W0 Pr dep eat (updF Zo i (N, N)) (updF L i true) (updF V i v) w :=
  h.move loc hN hi hdep rfl rfl rfl (Nat.le_refl _) (fun _ _ _ => rfl) ⟨Nat.le_refl _, Nat.le_refl _, by rw [hN]; exact h.low.size⟩ (.inr (.inl rfl)) hp
/-- It makes memory. -/
theorem ZF.make (loc : ∀ i V V' z w, (∀ j ∈ dep i, V j = V' j) → Pr i V z w → Pr i V' z w) (h : ZF N W0 Pr dep eat Zo L V w) (hN : N = W0.heap.size) {i : Nat} (hi : L i = false) (hdep : ∀ j ∈ dep i, j = i ∨ L j = true) {v : Value} (hb : Below w.heap.size w w')
    (hp : Stab N (w.heap.size, w'.heap.size) (Pr i (updF V i v) (w.heap.size, w'.heap.size)) w') : ZF N W0 Pr dep eat (updF Zo i (w.heap.size, w'.heap.size)) (updF L i true) (updF V i v) w' :=
  h.move loc hN hi hdep hb.os hb.tape hb.output hb.size (fun b hb' _ => hb.block b hb') ⟨by rw [hN]; exact h.low.size, hb.size, Nat.le_refl _⟩ (.inl (Nat.le_refl _)) hp
end
section
variable {P : Program} {l : List Oper} {Q : Exit → Act → World → Prop}
theorem wp_region_Z {id : Nat} {a0 : Act} {w : World} (N : Nat) (Pr : Nat → (Nat → Value) → Zone → World → Prop) (dep : Nat → List Nat) (eat : Nat → Option Nat) (hN : N = w.heap.size) (hm : P.follows .mixedOrders = true) (hd : dstsOk l a0.tmps.size = true) (hord : inOrder l.toArray = true)
    (hstep : ∀ (Zo : Nat → Zone) (L : Nat → Bool) (V : Nat → Value) (wx : World) (i : Nat) (o : Oper) (a : Act), l[i]? = some o → L i = false → (∀ e ∈ o.after, Region.binds .any e = true → L e.on = true) → ZF N w Pr dep eat Zo L V wx → Agree l L V a0 a →
      wpOp P l.toArray Q i (fun a' w' => ∃ v z, a' = a.put o.dst v ∧ ZF N w Pr dep eat (updF Zo i z) (updF L i true) (updF V i v) w') a wx)
    (hend : ∀ (Zo : Nat → Zone) (L : Nat → Bool) (V : Nat → Value) (wx : World), (∀ j, j < l.length → L j = true) → ZF N w Pr dep eat Zo L V wx → Q .normal (putsF l 0 V a0) wx) : (Code.region id l.toArray true).wp P Q a0 w := by
  refine wp_region_V hm hd hord (fun L V w' => ∃ Zo, ZF N w Pr dep eat Zo L V w') ⟨_, ZF.start hN⟩ ?_ ?_
  · rintro L V wx i o a ho hi hdep ⟨Zo, hF⟩ hA
    refine wpOp_mono (fun a' w' h => ?_) (hstep Zo L V wx i o a ho hi hdep hF hA)
    obtain ⟨v, z, h1, h2⟩ := h
    exact ⟨v, h1, _, h2⟩
  · rintro L V wx hall ⟨Zo, hF⟩
    exact hend Zo L V wx hall hF
end
end
end Go.Proofs.Ytdkmomdioiipjaa
