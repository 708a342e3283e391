/- Lemmas. -/
import Derived.Sort.Defs
import Derived.Shelf.SlSortCmp.KitK
import Derived.WalkLawsBesides
import Derived.BigRegion
import Derived.Test.YtpomkhcobpihmaaGreatPar29
namespace Go.Proofs.YtpomkhcobpihmaaGreat
section
open Go.RowKit
open Go.RowKit Go.Sort
set_option linter.unusedVariables false
set_option maxRecDepth 100000
def ltS (s t:ByteArray):Bool:=Op.bytesLess s.toList t.toList
theorem ltS_eq (s t:ByteArray):ltS s t = decide (s.toList < t.toList):=bytesLess_eq _ _
theorem toListB_inj {s t:ByteArray} (h:s.toList = t.toList):s = t:=by
 rw [toList_eq,toList_eq] at h
 cases s;cases t
 simp only at h
 congr 1
 exact Array.toList_inj.1 h
theorem ltS_irrefl (s:ByteArray):ltS s s = false:=by
 rw [ltS_eq];exact decide_eq_false (List.lt_irrefl _)
theorem ltS_trans {s t u:ByteArray} (h1:ltS s t = true) (h2:ltS t u = true):ltS s u = true:=by
 rw [ltS_eq] at *
 exact decide_eq_true (List.lt_trans (of_decide_eq_true h1) (of_decide_eq_true h2))
theorem ltS_asymm {s t:ByteArray} (h1:ltS s t = true):ltS t s = false:=by
 cases h:ltS t s with
 | false=>rfl
 | true=>have:=ltS_trans h1 h;rw [ltS_irrefl] at this;cases this
theorem ltS_eq_of {s t:ByteArray} (h1:ltS s t = false) (h2:ltS t s = false):s = t:=by
 rw [ltS_eq] at *
 have a:=of_decide_eq_false h1
 have b:=of_decide_eq_false h2
 exact toListB_inj (List.le_antisymm (List.not_lt.1 b) (List.not_lt.1 a))
theorem ltS_le_trans {a b c:ByteArray} (h1:ltS b a = false) (h2:ltS c b = false):ltS c a = false:=by
 cases h:ltS c a with
 | false=>rfl
 | true =>
  cases h3:ltS a b with
  | true=>have:=ltS_trans h h3;rw [h2] at this;cases this
  | false =>
   have:=ltS_eq_of h3 h1
   subst this
   rw [h] at h2;cases h2
section
variable {α:Type} (key:α → ByteArray)
def Srt (l:List α):Prop:=l.Pairwise (fun a b=>ltS (key b) (key a) = false)
variable {key}
end
structure Rw where
 s:ByteArray
 x:Ob
 k:Int
 n:Int
 A2:Option Addr
 m2:Nat
 c2:Nat
 A3:Option Addr
 m3:Nat
 c3:Nat
 A4:Option Addr
 m4:Nat
 c4:Nat
instance:Inhabited Rw:=⟨⟨⟨#[]⟩,.mk 0 0 [] .nil .nil,0,0,none,0,0,none,0,0,none,0,0⟩⟩
def encR (r:Rw):List Value:=[.string r.s,.int .i64 r.k,.int .i64 r.n,.slice r.A2 r.m2 r.c2,.slice r.A3 r.m3 r.c3,.slice r.A4 r.m4 r.c4]
theorem encR_len (r:Rw):(encR r).length = 6:=rfl
theorem encR_one (r:Rw):∀ v ∈ encR r,v.oneCell' = true:=by
 intro v hv
 unfold encR at hv
 simp only [List.mem_cons,List.not_mem_nil,or_false] at hv
 rcases hv with rfl | rfl | rfl | rfl | rfl | rfl <;> rfl
def cmpZ (s t:ByteArray):Int:=if ltS s t = true then -1 else if ltS t s = true then 1 else 0
def cfR (r q:Rw):Int:=cmpZ r.s q.s
theorem cmpZ_neg (s t:ByteArray):decide (cmpZ s t < 0) = ltS s t:=by
 unfold cmpZ
 cases h:ltS s t <;> simp
 split <;> omega
theorem run_gtS (s t:ByteArray) (W:World):(binOp BinOp.gtr 9 (.string s) (.string t)).run Tryz.prog W = .ok (.bool (!(Op.bytesLess s.toList t.toList || s.toList == t.toList))) W:=by kernel_rfl
theorem isNaNC (s:ByteArray) (w:World):Calls Tryz.prog 152 #[.string s] w fun e w'=>e = .returned (.bool false) ∧ w = w':=by
 go_enter Tryz.func152,Tryz.ntmps152
 go_wp2
 go_ret
 exact ⟨by simp,rfl⟩
theorem compareC (s t:ByteArray) (w:World):Calls Tryz.prog 138 #[.string s,.string t] w fun e w'=>e = .returned (.int .i64 (cmpZ s t)) ∧ w = w':=by
 have hgt:=run_gtS s t
 cases h:ltS s t with
 | true =>
  have e:cmpZ s t = -1:=by unfold cmpZ;rw [if_pos h]
  rw [e]
  unfold ltS at h
  clear e
  go_enter Tryz.func138,Tryz.ntmps138
  go_wp2_with (go_at_call 152;refine (isNaNC _ _).mono ?_;rintro e w' ⟨rfl,rfl⟩)
  go_ret
  exact ⟨rfl,rfl⟩
 | false =>
  cases h2:ltS t s with
  | true =>
   have e:cmpZ s t = 1:=by unfold cmpZ;rw [if_neg (by rw [h];simp),if_pos h2]
   have hne:(s.toList == t.toList) = false:=str_ne (by rintro rfl;rw [ltS_irrefl] at h2;cases h2)
   rw [e]
   unfold ltS at h
   rw [h,hne] at hgt
   clear e h2
   go_enter Tryz.func138,Tryz.ntmps138
   go_wp2_with (go_at_call 152;refine (isNaNC _ _).mono ?_;rintro e w' ⟨rfl,rfl⟩)
   go_ret
   exact ⟨rfl,rfl⟩
  | false =>
   have e:cmpZ s t = 0:=by unfold cmpZ;rw [if_neg (by rw [h];simp),if_neg (by rw [h2];simp)]
   have heq:=ltS_eq_of h h2
   rw [e]
   unfold ltS at h
   have hbe:(s.toList == t.toList) = true:=by rw [heq];simp
   rw [h,hbe] at hgt
   clear e h2 heq
   go_enter Tryz.func138,Tryz.ntmps138
   go_wp2_with (go_at_call 152;refine (isNaNC _ _).mono ?_;rintro e w' ⟨rfl,rfl⟩)
   go_ret
   exact ⟨rfl,rfl⟩
abbrev SW6 (w0:World) (blk off:Nat) (dk:Array Rw) (W:World):Prop:=SWK encR 6 w0 blk off dk W
abbrev keyR:Rw → ByteArray:=fun r=>r.s
theorem SW6.only {w0 W:World} {blk off:Nat} {dk:Array Rw} (h:SW6 w0 blk off dk W):Only blk w0 W:=by
 obtain ⟨n,os,rfl⟩:=h
 refine ⟨rfl,rfl,rfl,SWK.le ⟨n,os,rfl⟩,fun k hk hne=>?_⟩
 unfold sortWorldK
 rw [heap_grow_old _ _ (by rw [size_putRowK];exact hk)]
 unfold putRowK putRow mapBlock
 simp only [Array.getElem?_modify]
 rw [if_neg (fun e=>hne e.symm)]
 rfl
end
end Go.Proofs.YtpomkhcobpihmaaGreat
