/- Contracts of functions that the law calls, and what they lean on (a part). -/
import Derived.Test.YtpomkhcobpihmaaGreatPas20
import Derived.Test.YtpomkhcobpihmaaGreatPas33
namespace Go.Proofs.YtpomkhcobpihmaaGreat
section
open Go.RowKit
set_option linter.unusedVariables false
set_option maxRecDepth 100000
/-- A lexer that the call made, over bytes zs. -/
structure LS (w W : World) (h g : Nat) (A : Option Addr) (n c p : Nat) (zs : List Int) : Prop where
  lx : LX W h g A n c p
  bt : Byt W g A n c zs
  lo : w.heap.size ≤ g
  bl : Below w.heap.size w W
section
variable {w W W' : World} {h g n c p q : Nat} {A : Option Addr} {zs : List Int}
theorem LS.low (x : LS w W h g A n c p zs) (hb : Below W.heap.size W W') : LS w W' h g A n c p zs :=
  ⟨x.lx.below hb x.lx.lt x.lx.cu.lt, x.bt.below hb (Nat.le_of_lt x.lx.cu.lt), x.lo, x.bl.trans (hb.mono (Nat.le_trans x.lo (Nat.le_of_lt x.lx.cu.lt)))⟩
theorem LS.alloc (x : LS w W h g A n c p zs) (o : Obj) : LS w (W.alloc o) h g A n c p zs := x.low ((Below.refl _ _).alloc (Nat.le_refl _) o)
theorem LS.drewN (x : LS w W h g A n c p zs) (k : Nat) : LS w (W.drewN k) h g A n c p zs := ⟨x.lx.drewN k, x.bt.drewN k, x.lo, below_drewN x.bl k⟩
theorem LS.moved (x : LS w W h g A n c p zs) (hl : LX W' h g A n c q) (ho : Only g W W') : LS w W' h g A n c q zs :=
  ⟨hl, x.bt.only ho (Nat.le_refl _) (Nat.le_of_lt x.lx.cu.lt), x.lo, x.bl.trans (ho.belowB x.lo (Nat.le_of_lt x.lx.cu.lt))⟩
end
theorem conv_str {W : World} {B n c : Nat} {A : Option Addr} {zs : List Int} (hb : Byt W B A n c zs) (s : ByteArray) (hs : strOfNums zs = s) : (convert 23 9 (.slice A n c)).run Tryz.prog W = .ok (.string s) W := by
  subst hs
  exact hb.inn.convert (P := Tryz.prog) hb.len c 23 5 9 Tryz.underlying23 Tryz.underlying5 Tryz.underlying9
end
end Go.Proofs.YtpomkhcobpihmaaGreat
