/- Chapter 11: Keyword, of the project and of the document. -/
import Derived.Test.YtojbhckgegoldaaLq11
import Derived.Test.YtojbhckgegoldaaRb11
namespace Go.Proofs.Ytojbhckgegoldaa
open Go.RowKit
set_option linter.unusedVariables false
set_option maxRecDepth 100000

/-- Behind what is blank stands s, and no regular sign behind it. -/
def kwB (zs : List Int) (p : Nat) (s : ByteArray) : Bool := stB zs (blkP zs p) s && !(regB (peekZ zs ((blkP zs p : Int) + (s.size : Int))))
/-- Where one stands behind a word asked for. -/
def kwP (zs : List Int) (p : Nat) (s : ByteArray) : Nat := if kwB zs p s = true then blkP zs p + s.size else p
theorem kwP_le (zs : List Int) (p : Nat) (s : ByteArray) (hp : p ≤ zs.length) : kwP zs p s ≤ zs.length := by
  unfold kwP kwB
  split
  · rename_i h
    rcases Nat.lt_or_ge zs.length (blkP zs p + s.size) with h' | h'
    · rw [stB_no zs _ s h'] at h; cases h
    · exact h'
  · exact hp
theorem pkeywordC (h g n c p B : Nat) (A : Option Addr) (zs : List Int) (s : ByteArray) (w : World) (hx : LX w h g A n c p) (hb : Byt w B A n c zs) (hB : B ≤ g) (hn : n ≤ 900000) (hs : s.size ≤ 900000) :
    Calls Try.prog 18 #[.pointer (some ⟨h, 0, none⟩), .string s] w fun e w' => e = .returned (.bool (kwB zs p s)) ∧ LX w' h g A n c (kwP zs p s) ∧ Only g w w' := by
  have hpl := hx.pl
  have hle := (blkP_le zs p (by rw [hb.len]; exact hpl)).2
  have HPO := Lib.hid (pos_any g n c p A w hx.cu)
  have HBLK := Lib.hid (pblankC h g n c p B A zs w hx hb hB (by omega))
  have k0 := hx.k0
  have HPL := Lib.hid hpl
  have HGW := Lib.hid (Nat.le_of_lt hx.cu.lt)
  have HB := Lib.hid hb
  have HSK := Lib.hid (fun W q (hW : LX W h g A n c q) => seek_in g n c q p A W hW.cu hpl (by omega))
  have HREG := Lib.hid (fun c W => pregC c W)
  have HPKK := Lib.hid (fun W q (hW : LX W h g A n c q) (hbW : Byt W B A n c zs) => peek_any g n c q B A zs 0 W hW.cu hbW hW.pl (by omega))
  unfold kwP kwB
  obtain ⟨bp, hbp⟩ : ∃ bp, blkP zs p = bp := ⟨_, rfl⟩
  rw [hbp] at HBLK ⊢
  rcases hst : stB zs bp s with _ | _
  · have HM := Lib.hid (fun W (hW : LX W h g A n c bp) (hbW : Byt W B A n c zs) => lxm_no h g n c bp B A zs s W hW hbW (by omega) (by omega) hst)
    clear hx hb hbp hst hle hpl
    go_enter Try.func18, Try.ntmps18
    go_wp2_with (first
      | (go_at_call 16; refine HPO.out.mono ?_; (rintro r w1 ⟨rfl, rfl⟩))
      | (go_at_call 20; refine HBLK.out.mono ?_; (rintro r w2 ⟨rfl, hx2, ho2⟩); have HX2 := Lib.hid hx2; have HO2 := Lib.hid ho2; have k2 := hx2.k0; have HM2 := Lib.hid (HM.out w2 hx2 (HB.out.only ho2 hB HGW.out)); clear hx2 ho2)
      | (go_at_call 35; refine HM2.out.mono ?_; (rintro r w3 ⟨rfl, q3, rfl⟩))
      | (go_at_call 17; refine (HSK.out _ _ (HX2.out.drewN q3)).mono ?_; (rintro r w4 ⟨rfl, hc4, ho4⟩)))
    go_ret
    exact ⟨rfl, (HX2.out.drewN q3).moved hc4 ho4 HPL.out, (HO2.out.drewN q3).trans ho4⟩
  · have HM := Lib.hid (fun W (hW : LX W h g A n c bp) (hbW : Byt W B A n c zs) => lxm_yes h g n c bp B A zs s W hW hbW (by omega) s.size rfl hst)
    have e1 : ((bp + s.size : Nat) : Int) = (bp : Int) + (s.size : Int) := by omega
    rcases hrg : regB (peekZ zs ((bp : Int) + (s.size : Int))) with _ | _
    · have HRG := Lib.hid hrg
      clear hx hb hbp hst hle hpl hrg
      go_enter Try.func18, Try.ntmps18
      go_wp2_with (first
        | (go_at_call 16; refine HPO.out.mono ?_; (rintro r w1 ⟨rfl, rfl⟩))
        | (go_at_call 20; refine HBLK.out.mono ?_; (rintro r w2 ⟨rfl, hx2, ho2⟩); have HX2 := Lib.hid hx2; have HO2 := Lib.hid ho2; have k2 := hx2.k0; have HM2 := Lib.hid (HM.out w2 hx2 (HB.out.only ho2 hB HGW.out)); clear hx2 ho2)
        | (go_at_call 35; refine HM2.out.mono ?_; (rintro r w3 ⟨rfl, hx3, ho3⟩); have HX3 := Lib.hid hx3; have HO3 := Lib.hid (HO2.out.trans ho3); have k3 := hx3.k0; have hpk := HPKK.out w3 _ hx3 (HB.out.only HO3.out hB HGW.out); rw [Int.add_zero, e1] at hpk; have HPK3 := Lib.hid hpk; clear hx3 ho3 hpk)
        | (go_at_call 36; refine HPK3.out.mono ?_; (rintro r w4 ⟨rfl, q4, rfl⟩))
        | (go_at_call 22; refine (HREG.out _ _).mono ?_; rw [HRG.out]; (rintro r w5 ⟨rfl, rfl⟩)))
      go_ret
      exact ⟨rfl, HX3.out.drewN q4, HO3.out.drewN q4⟩
    · have HRG := Lib.hid hrg
      clear hx hb hbp hst hle hpl hrg
      go_enter Try.func18, Try.ntmps18
      go_wp2_with (first
        | (go_at_call 16; refine HPO.out.mono ?_; (rintro r w1 ⟨rfl, rfl⟩))
        | (go_at_call 20; refine HBLK.out.mono ?_; (rintro r w2 ⟨rfl, hx2, ho2⟩); have HX2 := Lib.hid hx2; have HO2 := Lib.hid ho2; have k2 := hx2.k0; have HM2 := Lib.hid (HM.out w2 hx2 (HB.out.only ho2 hB HGW.out)); clear hx2 ho2)
        | (go_at_call 35; refine HM2.out.mono ?_; (rintro r w3 ⟨rfl, hx3, ho3⟩); have HX3 := Lib.hid hx3; have HO3 := Lib.hid (HO2.out.trans ho3); have k3 := hx3.k0; have hpk := HPKK.out w3 _ hx3 (HB.out.only HO3.out hB HGW.out); rw [Int.add_zero, e1] at hpk; have HPK3 := Lib.hid hpk; clear hx3 ho3 hpk)
        | (go_at_call 36; refine HPK3.out.mono ?_; (rintro r w4 ⟨rfl, q4, rfl⟩))
        | (go_at_call 22; refine (HREG.out _ _).mono ?_; rw [HRG.out]; (rintro r w5 ⟨rfl, rfl⟩))
        | (go_at_call 17; refine (HSK.out _ _ (HX3.out.drewN q4)).mono ?_; (rintro r w6 ⟨rfl, hc6, ho6⟩)))
      go_ret
      exact ⟨rfl, (HX3.out.drewN q4).moved hc6 ho6 HPL.out, (HO3.out.drewN q4).trans ho6⟩
theorem rstands (A : Option Addr) (n c B : Nat) (zs : List Int) (p : Nat) (s : ByteArray) (w : World) (hb : Byt w B A n c zs) (hn : n ≤ 900000) (hs : s.size ≤ 900000) :
    Calls Try.prog 28 #[.slice A n c, .int .i64 p, .string s] w fun e w' => e = .returned (.bool (stB zs p s)) ∧ ∃ k, w' = w.drewN k := by
  by_cases h : p + s.size ≤ n
  · exact (refStands_at A n c B zs p s w hb (by omega) h).mono fun _ _ ⟨h1, h2⟩ => ⟨h1, 0, h2 ▸ rfl⟩
  · rw [stB_no zs p s (by rw [hb.len]; omega)]
    exact (refStands_no2 A n c zs p s w hb.len (by omega) (by omega) (by omega)).mono fun _ _ ⟨h1, h2⟩ => ⟨h1, 0, h2 ▸ rfl⟩
theorem rkeywordC (m n c p B : Nat) (T : TypeId) (X : List Value) (A : Option Addr) (zs : List Int) (s : ByteArray) (w : World) (h : LD w m 34 X A n c p) (hb : Byt w B A n c zs) (hB : B ≤ m) (hn : n ≤ 900000) (hp : p ≤ n) (hs : s.size ≤ 900000) :
    Calls Try.prog 19 #[.pointer (some ⟨m, 0, none⟩), .string s] w fun e w' => e = .returned (.bool (kwB zs p s)) ∧ LD w' m 34 X A n c (kwP zs p s) ∧ Only m w w' := by
  have hle := (blkP_le zs p (by rw [hb.len]; exact hp)).2
  rw [hb.len] at hle
  have HBLK := Lib.hid (rblankC m n c p B _ X A zs w h hb hB (by omega) hp)
  have c1 := h.c1
  have HMW := Lib.hid (Nat.le_of_lt h.lt)
  have HB := Lib.hid hb
  have HREG := Lib.hid (fun c W => rregC c W)
  unfold kwP kwB
  obtain ⟨bp, hbp⟩ : ∃ bp, blkP zs p = bp := ⟨_, rfl⟩
  rw [hbp] at HBLK hle ⊢
  have HST := Lib.hid (fun W (hbW : Byt W B A n c zs) => rstands A n c B zs bp s W hbW hn hs)
  have HPK := Lib.hid (fun W (hW : LD W m 34 X A n c bp) (hbW : Byt W B A n c zs) => rpeekC m n c bp B _ X A zs (s.size : Int) W hW hbW (by omega) (by omega) (by omega))
  rcases hst : stB zs bp s with _ | _
  · rw [hst] at HST
    clear h hb hbp hst hle hp
    go_enter Try.func19, Try.ntmps19
    go_upto_region 3 with (first
      | (go_at_call 21; refine HBLK.out.mono ?_; (rintro r w2 ⟨rfl, hx2, ho2⟩); have HX2 := Lib.hid hx2; have HO2 := Lib.hid ho2; have d0 := hx2.c0; have d1 := hx2.c1; have f1 := hx2.fr 1; have HST2 := Lib.hid (fun k => HST.out (w2.drewN k) ((HB.out.only ho2 hB HMW.out).drewN k)); clear hx2 ho2))
    go_quiet ((go_at_call 28; exact Calls.quiet_of (HST2.out _)))
    go_wp2_with fail
    go_ret
    exact ⟨rfl, (HX2.out.drewN _).setI p _ rfl, (HO2.out.drewN _).set_ 1 _⟩
  · rw [hst] at HST
    have e1 : IntKind.i64.wrap ((bp : Int) + (s.size : Int)) = ((bp + s.size : Nat) : Int) := by rw [IntWalk.i64_in _ (by omega)]; omega
    rcases hrg : regB (peekZ zs ((bp : Int) + (s.size : Int))) with _ | _
    all_goals (
      obtain ⟨y, hy⟩ : ∃ y, peekZ zs ((bp : Int) + (s.size : Int)) = y := ⟨_, rfl⟩
      rw [hy] at HPK hrg
      have HRY := HREG.out y
      rw [hrg] at HRY
      have HRG := Lib.hid HRY
      clear h hb hbp hst hle hp hrg hy HREG HRY
      go_enter Try.func19, Try.ntmps19
      go_upto_region 3 with (first
        | (go_at_call 21; refine HBLK.out.mono ?_; (rintro r w2 ⟨rfl, hx2, ho2⟩); have HX2 := Lib.hid hx2; have HO2 := Lib.hid ho2; have d0 := hx2.c0; have d1 := hx2.c1; have f1 := hx2.fr 1; have HST2 := Lib.hid (fun k => HST.out (w2.drewN k) ((HB.out.only ho2 hB HMW.out).drewN k)); have HPK2 := Lib.hid (fun k => HPK.out (w2.drewN k) (hx2.drewN k) ((HB.out.only ho2 hB HMW.out).drewN k)); clear hx2 ho2))
      go_quiet ((first
        | (go_at_call 28; exact Calls.quiet_of (HST2.out _))
        | (go_at_call 37; exact Calls.quiet_of (HPK2.out _))
        | (go_at_call 23; exact quietL (HRG.out _))))
      go_wp2_with fail
      go_ret)
    · exact ⟨rfl, (HX2.out.drewN _).setI (bp + s.size) _ rfl, (HO2.out.drewN _).set_ 1 _⟩
    · exact ⟨rfl, (HX2.out.drewN _).setI p _ rfl, (HO2.out.drewN _).set_ 1 _⟩
end Go.Proofs.Ytojbhckgegoldaa
