/- Lemmas. -/
import Derived.Deep.QuietTactic
import Derived.BigQuiet
import Derived.Test.YtpomkhcobpihmaaGreatPar3
namespace Go.Proofs.YtpomkhcobpihmaaGreat
section
open Go.RowKit
set_option linter.unusedVariables false
set_option maxRecDepth 100000
def Obs.dropN:Obs → Nat → Obs
 | l,0=>l
 | .nil,_ + 1=>.nil
 | .cons _ xs,i + 1=>xs.dropN i
def Ens.dropN:Ens → Nat → Ens
 | l,0=>l
 | .nil,_ + 1=>.nil
 | .cons _ _ xs,i + 1=>xs.dropN i
theorem Obs.drop_get:∀ (l:Obs) (i:Nat) (x:Ob),l.get? i = some x → l.dropN i = .cons x (l.dropN (i + 1))
 | .nil,i,x,h=>by simp [Obs.get?] at h
 | .cons y xs,0,x,h=>by
  simp [Obs.get?] at h
  subst h
  cases xs <;> rfl
 | .cons y xs,i + 1,x,h=>Obs.drop_get xs i x (by simpa [Obs.get?] using h)
theorem Ens.drop_get:∀ (l:Ens) (i:Nat) (s:ByteArray) (x:Ob),l.get? i = some (s,x) → l.dropN i = .cons s x (l.dropN (i + 1))
 | .nil,i,s,x,h=>by simp [Ens.get?] at h
 | .cons t y xs,0,s,x,h=>by
  simp [Ens.get?] at h
  obtain ⟨rfl,rfl⟩:=h
  cases xs <;> rfl
 | .cons t y xs,i + 1,s,x,h=>Ens.drop_get xs i s x (by simpa [Ens.get?] using h)
theorem Obs.drop_end:∀ (l:Obs),l.dropN l.len = .nil
 | .nil=>rfl
 | .cons x xs=>Obs.drop_end xs
theorem Ens.drop_end:∀ (l:Ens),l.dropN l.len = .nil
 | .nil=>rfl
 | .cons s x xs=>Ens.drop_end xs
end
end Go.Proofs.YtpomkhcobpihmaaGreat
