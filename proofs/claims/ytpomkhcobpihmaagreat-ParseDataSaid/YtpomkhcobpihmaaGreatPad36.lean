/- Lemmas. -/
import Derived.Test.YtpomkhcobpihmaaGreatPad25
import Derived.Test.YtpomkhcobpihmaaGreatPad31
namespace Go.Proofs.YtpomkhcobpihmaaGreat
set_option maxRecDepth 100000
set_option linter.unusedVariables false
section
open Go.RowKit
theorem bytS_nil (w:World) (S:Nat → Prop):BytS w S none 0 0 []:=⟨rfl,by omega,(fun _ h=>by cases h),fun h=>absurd h (by omega)⟩
theorem ObR.plain {w:World} {S:Nat → Prop} {k n:Int} {A:Option Addr} {m c:Nat} {b:List Int} (hk:-9223372036854775808 ≤ k ∧ k ≤ 9223372036854775807) (hn:-9223372036854775808 ≤ n ∧ n ≤ 9223372036854775807) (hb:BytS w S A m c b) :
  ObR w S (.mk k n b .nil .nil) (.int .i64 k) (.int .i64 n) (.slice A m c) (.slice none 0 0) (.slice none 0 0):=by
 unfold ObR
 exact ⟨rfl,rfl,hk,hn,⟨A,m,c,rfl,hb⟩,⟨none,0,rfl,by simp [Obs.len],fun h=>absurd h (by simp [Obs.len])⟩,⟨none,0,rfl,by simp [Ens.len],fun h=>absurd h (by simp [Ens.len])⟩⟩
end
section
open Go.RowKit
def ObsV (w:World) (S:Nat → Prop) (l:Obs) (A:Option Addr) (c:Nat):Prop:=(l.len ≤ c ∧ c ≤ 9223372036854775807) ∧ (0 < l.len → ∃ g o,A = some ⟨g,o,none⟩ ∧ S g ∧ ObsR w S l g o)
end
section
open Go.RowKit
theorem hasC (k:Int) (c1 c2 c3 c4:Value) (w:World):Calls Tryz.prog 82 #[.agg #[.int .i64 k,c1,c2,c3,c4]] w fun r w'=>r = .returned (.bool (decide (k = 7 ∨ k = 8))) ∧ Below w.heap.size w w':=by
 have hb:=(Below.refl w.heap.size w).alloc (Nat.le_refl _) (.cells #[.int .i64 k,c1,c2,c3,c4] 27)
 have hn:=heap_alloc_new w (.cells #[.int .i64 k,c1,c2,c3,c4] 27)
 obtain ⟨W1,hW1⟩:∃ W1,w.alloc (.cells #[.int .i64 k,c1,c2,c3,c4] 27) = W1:=⟨_,rfl⟩
 rw [hW1] at hb hn
 have m0:W1.cell? ⟨w.heap.size,0,none⟩ = some (.int .i64 k):=cell_of_row _ _ 0 _ _ (0,0) hn
 have HB:=lH hb
 clear hb hn
 by_cases h7:k = 7
 ·subst h7
  go_enter Tryz.func82,Tryz.ntmps82
  go_wp2_with fail
  go_ret
  exact ⟨by simp,HB.out⟩
 ·have t7:(k == 7) = false:=beq_eq_false_iff_ne.2 h7
  by_cases h8:k = 8
  ·subst h8
   clear t7
   go_enter Tryz.func82,Tryz.ntmps82
   go_wp2_with fail
   go_ret
   exact ⟨by simp,HB.out⟩
  ·have t8:(k == 8) = false:=beq_eq_false_iff_ne.2 h8
   have hv:decide (k = 7 ∨ k = 8) = false:=by simp [h7,h8]
   rw [hv]
   go_enter Tryz.func82,Tryz.ntmps82
   go_wp2_with fail
   go_ret
   exact ⟨rfl,HB.out⟩
end
end Go.Proofs.YtpomkhcobpihmaaGreat
