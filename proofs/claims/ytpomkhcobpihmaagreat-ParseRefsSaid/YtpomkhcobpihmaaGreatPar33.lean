/- Lemmas. -/
import Derived.Test.YtpomkhcobpihmaaGreatPar16
import Derived.Test.YtpomkhcobpihmaaGreatPar30
namespace Go.Proofs.YtpomkhcobpihmaaGreat
set_option maxRecDepth 100000
set_option linter.unusedVariables false
section
open Go.RowKit
theorem bytS_nil (w:World) (S:Nat → Prop):BytS w S none 0 0 []:=⟨rfl,by omega,(fun _ h=>by cases h),fun h=>absurd h (by omega)⟩
theorem ObR.plain {w:World} {S:Nat → Prop} {k n:Int} {A:Option Addr} {m c:Nat} {b:List Int} (hk:-9223372036854775808 ≤ k ∧ k ≤ 9223372036854775807) (hn:-9223372036854775808 ≤ n ∧ n ≤ 9223372036854775807) (hb:BytS w S A m c b) :
  ObR w S (.mk k n b .nil .nil) (.int .i64 k) (.int .i64 n) (.slice A m c) (.slice none 0 0) (.slice none 0 0):=by
 unfold ObR
 exact ⟨rfl,rfl,hk,hn,⟨A,m,c,rfl,hb⟩,⟨none,0,rfl,by simp [Obs.len],fun h=>absurd h (by simp [Obs.len])⟩,⟨none,0,rfl,by simp [Ens.len],fun h=>absurd h (by simp [Ens.len])⟩⟩
theorem intC (n:Int) (w:World) (hn:-9223372036854775808 ≤ n ∧ n ≤ 9223372036854775807):Calls Tryz.prog 20 #[.int .i64 n] w (CpP w (.mk 2 n [] .nil .nil)):=by
 go_enter Tryz.func20,Tryz.ntmps20
 go_wp2_with fail
 refine bodyPost_ret (results_cell_row rfl _ _ w.heap.size 27 _ (0,0) _ rfl (heap_alloc_new w _) Tryz.underlying27 rfl (by kernel_rfl)) rfl ?_
 exact ⟨_,_,_,_,_,rfl,ObR.plain (by omega) hn (bytS_nil _ _),(Below.refl _ _).alloc (Nat.le_refl _) _⟩
theorem refC (n:Int) (w:World) (hn:-9223372036854775808 ≤ n ∧ n ≤ 9223372036854775807):Calls Tryz.prog 19 #[.int .i64 n] w (CpP w (.mk 9 n [] .nil .nil)):=by
 go_enter Tryz.func19,Tryz.ntmps19
 go_wp2_with fail
 refine bodyPost_ret (results_cell_row rfl _ _ w.heap.size 27 _ (0,0) _ rfl (heap_alloc_new w _) Tryz.underlying27 rfl (by kernel_rfl)) rfl ?_
 exact ⟨_,_,_,_,_,rfl,ObR.plain (by omega) hn (bytS_nil _ _),(Below.refl _ _).alloc (Nat.le_refl _) _⟩
end
section
open Go.RowKit
def ObsV (w:World) (S:Nat → Prop) (l:Obs) (A:Option Addr) (c:Nat):Prop:=(l.len ≤ c ∧ c ≤ 9223372036854775807) ∧ (0 < l.len → ∃ g o,A = some ⟨g,o,none⟩ ∧ S g ∧ ObsR w S l g o)
end
end Go.Proofs.YtpomkhcobpihmaaGreat
