/- Contracts of functions that the law calls, and what they lean on (a part). -/
import Derived.Test.YtpomkhcobpihmaaGreatPas36
import Derived.Test.YtpomkhcobpihmaaGreatPas41
namespace Go.Proofs.YtpomkhcobpihmaaGreat
section
open Go.RowKit
set_option linter.unusedVariables false
set_option maxRecDepth 100000
theorem drop_one_cons (s t : ByteArray) (y : Ob) (ys : Ens) : dropE [s] (.cons t y ys) = if t = s then dropE [s] ys else .cons t y (dropE [s] ys) := by
  unfold dropE
  rw [Ens.toL, List.filter_cons]
  by_cases h : t = s
  · subst h
    simp [anyK]
  · have h2 : ¬ s = t := fun e => h e.symm
    simp [anyK, h, h2, Ens.ofL]
theorem with_drop (s : ByteArray) : ∀ d : Ens, withE s nulO d true = dropE [s] d
  | .nil => by rw [withE]; simp [dropE, Ens.toL, Ens.ofL]
  | .cons t y ys => by
    rw [drop_one_cons, ← with_drop s ys, withE]
    simp
end
end Go.Proofs.YtpomkhcobpihmaaGreat
