/- The document's own flow (chapter 4): dynamic, its contract. -/
import Derived.Test.YtginbilakdenmaaRef4Dyn
import Derived.Test.YtginbilakdenmaaRef4CodedC
import Derived.Deep.DeepCutAuto
import Derived.Deep.CutBlock
namespace Go.Proofs.Ytginbilakdenmaa
open Go.RowKit
set_option linter.unusedVariables false
set_option maxRecDepth 100000

/-- What dynamic answers: two tables that stay, where it has no error. -/
def DynPost (w : World) (k g n c p' most : Nat) (A : Option Addr) (e' : Int) (v : Value) (out l1 l2 : List Int) (ts : Nat → Prop) (r : Ending) (w' : World) : Prop :=
  ∃ (A1 : Option Addr) (n1 c1 : Nat) (A2 : Option Addr) (n2 c2 : Nat) (us : Nat → Prop), r = .returned (.tuple #[.slice A1 n1 c1, .slice A2 n2 c2]) ∧ (∀ i, ts i → us i) ∧ FS w' k g us A n c p' e' v out most ∧ Keeps ts w w' ∧
    (e' = 0 → n1 ≤ 1000 ∧ n2 ≤ 1000 ∧ ∀ W, Keeps us w' W → Nums W W.heap.size A1 n1 c1 l1 ∧ Nums W W.heap.size A2 n2 c2 l2)
theorem rowsR_stop (zs cl cs : List Int) (tot F p : Nat) (e : Int) (l : List Int) (h : ¬ (e = 0 ∧ l.length < tot)) : rowsR zs cl cs tot F p e l = (p, e, l) := by
  cases F with
  | zero => rfl
  | succ F => rw [rowsR, if_neg h]
def lenOf : Value → Nat
  | .slice _ n _ => n
  | _ => 0
theorem make_code19 (w : World) : (Instr.makeSlice 62 (.int .i64 19) (.int .i64 19)).run Try.prog w = .ok (.slice (some ⟨w.heap.size, 0, none⟩) 19 19) (w.alloc (.cells (zeroC 19) 3)) := make_code 19 w (by omega)

set_option maxRecDepth 100000 in
set_option maxHeartbeats 20000000 in
theorem dynC (k g n c p B most : Nat) (A : Option Addr) (v : Value) (out zs : List Int) (ts : Nat → Prop) (w : World) (h : FS w k g ts A n c p 0 v out most) (hb : Byt w B A n c zs) (hB : ∀ i, i < B → ts i) (hn : n ≤ 100000000) (hm : most ≤ 100000000) (hp : p ≤ 8 * n)
    (p' : Nat) (e' : Int) (l1 l2 : List Int) (hs : dynS zs p = (p', e', l1, l2)) :
    Calls Try.prog 47 #[.pointer (some ⟨k, 0, none⟩)] w (DynPost w k g n c p' most A e' v out l1 l2 ts) := by
  have hBg : B ≤ g := Nat.le_of_not_lt fun hlt => h.tg (hB g hlt)
  have HLEN := Lib.hid hb.len
  have H := Lib.hid h
  have HP := Lib.hid hp
  have HT := Lib.hid (fun W us p e m y q d (hW : Keeps ts w W) (h : FS W k g us A n c p e v out most) (hp : p ≤ 8 * n) (hm : m ≤ 16) hs => takeC g n c p B m e A zs W h.bs (hb.keeps hW hB) hBg hn hm hp y q d hs)
  have HYB := Lib.hid (fun W (hW : Keeps ts w W) => hb.keeps hW hB)
  have HK0 : Hid (Keeps ts w w) := Lib.hid (Keeps.refl _ _)
  have k0 := h.c0
  unfold dynS at hs
  dsimp only at hs
  -- 5 bits
  obtain ⟨y1, q1, d1, t1⟩ : ∃ y q d, takeS zs p 0 5 = (y, q, d) := ⟨_, _, _, rfl⟩
  have hv1 := takeS_v zs p 0 5
  have hq1 := (takeS_p zs p 0 5 (by rw [hb.len]; exact hp)).1
  rw [t1] at hs hv1 hq1
  rw [hb.len] at hq1
  dsimp only at hs hv1 hq1
  obtain ⟨Y1, rfl⟩ : ∃ Y1 : Nat, y1 = Y1 := ⟨y1.toNat, by omega⟩
  obtain ⟨LI, hLI⟩ : ∃ LI : Nat, (Y1 : Int) + 257 = LI := ⟨Y1 + 257, by omega⟩
  obtain ⟨e1, he1⟩ : ∃ e : Int, (if d1 = 0 ∧ 286 < (Y1 : Int) + 257 then 4 else d1) = e := ⟨_, rfl⟩
  rw [he1] at hs
  rw [hLI] at hs he1
  have hLb : 257 ≤ LI ∧ LI ≤ 288 := by omega
  -- 5 bits
  obtain ⟨y2, q2, d2, t2⟩ : ∃ y q d, takeS zs q1 e1 5 = (y, q, d) := ⟨_, _, _, rfl⟩
  have hv2 := takeS_v zs q1 e1 5
  have hq2 := (takeS_p zs q1 e1 5 (by rw [hb.len]; exact hq1)).1
  rw [t2] at hs hv2 hq2
  rw [hb.len] at hq2
  dsimp only at hs hv2 hq2
  obtain ⟨Y2, rfl⟩ : ∃ Y2 : Nat, y2 = Y2 := ⟨y2.toNat, by omega⟩
  obtain ⟨DI, hDI⟩ : ∃ DI : Nat, (Y2 : Int) + 1 = DI := ⟨Y2 + 1, by omega⟩
  obtain ⟨e2, he2⟩ : ∃ e : Int, (if d2 = 0 ∧ 30 < (Y2 : Int) + 1 then 4 else d2) = e := ⟨_, rfl⟩
  rw [he2] at hs
  rw [hDI] at hs he2
  have hDb : 1 ≤ DI ∧ DI ≤ 32 := by omega
  -- 4 bits
  obtain ⟨y3, q3, d3, t3⟩ : ∃ y q d, takeS zs q2 e2 4 = (y, q, d) := ⟨_, _, _, rfl⟩
  have hv3 := takeS_v zs q2 e2 4
  have hq3 := (takeS_p zs q2 e2 4 (by rw [hb.len]; exact hq2)).1
  rw [t3] at hs hv3 hq3
  rw [hb.len] at hq3
  dsimp only at hs hv3 hq3
  obtain ⟨Y3, rfl⟩ : ∃ Y3 : Nat, y3 = Y3 := ⟨y3.toNat, by omega⟩
  obtain ⟨MA, hMA⟩ : ∃ MA : Nat, (Y3 : Int) + 4 = MA := ⟨Y3 + 4, by omega⟩
  have hMb : 4 ≤ MA ∧ MA ≤ 19 := by omega
  obtain ⟨TO, hTO⟩ : ∃ TO : Nat, (LI : Int) + (DI : Int) = TO := ⟨LI + DI, by omega⟩
  rw [hMA, hTO, Int.toNat_natCast, Int.toNat_natCast, Int.toNat_natCast] at hs
  have hTb : TO = LI + DI := by omega
  -- the lengths of the code of lengths
  obtain ⟨q4, d4, cl4, t4⟩ : ∃ q d cl, clR zs MA 0 q3 d3 (List.replicate 19 0) = (q, d, cl) := ⟨_, _, _, rfl⟩
  have hq4 := clR_p zs MA 0 q3 d3 (List.replicate 19 0) (by rw [hb.len]; exact hq3)
  have hl4 := clR_lens zs MA 0 q3 d3 (List.replicate 19 0) (Lens.zeros 19)
  have hn4 := clR_len zs MA 0 q3 d3 (List.replicate 19 0)
  rw [t4] at hs hq4 hl4 hn4
  rw [hb.len] at hq4
  dsimp only at hs hq4 hl4 hn4
  rw [List.length_replicate] at hn4
  obtain ⟨e4, he4'⟩ : ∃ e : Int, (if d4 = 0 ∧ mayS cl4 = false then 4 else d4) = e := ⟨_, rfl⟩
  rw [he4'] at hs
  obtain ⟨p5, e5, l5, t5⟩ : ∃ q d l, rowsR zs cl4 (codesS cl4) TO (TO + 1) q4 e4 [] = (q, d, l) := ⟨_, _, _, rfl⟩
  rw [t5] at hs
  dsimp only at hs
  have T1 := Lib.hid t1
  have T2 := Lib.hid t2
  have T3 := Lib.hid t3
  have T4 := Lib.hid t4
  have T5 := Lib.hid t5
  have HE1 := Lib.hid he1
  have HE2 := Lib.hid he2
  have HE4 := Lib.hid he4'
  have HQ1 := Lib.hid hq1
  have HQ2 := Lib.hid hq2
  have HQ3 := Lib.hid hq3
  have HQ4 := Lib.hid hq4
  have HL4 := Lib.hid hl4
  have HN4 := Lib.hid hn4
  have HS := Lib.hid hs
  have HTO := Lib.hid hTO
  have HTB := Lib.hid hTb
  clear t1 t2 t3 t4 t5 he1 he2 he4' hq1 hq2 hq3 hq4 hl4 hn4 hs hTb hTO hv1 hv2 hv3 h hb hp
  have HHB := Lib.hid hB
  clear hB
  go_enter Try.func47, Try.ntmps47
  go_upto_region 2 with (go_at_call 44; refine (HT.out _ ts p 0 5 Y1 q1 d1 HK0.out H.out HP.out (by omega) T1.out).mono ?_; rintro r w1 ⟨rfl, hb1, ho1⟩; have HF1 := Lib.hid (H.out.read ho1 hb1); have HK1 := Lib.hid (HK0.out.trans (ho1.keeps H.out.tg H.out.tb)); have k01 := HF1.out.c0; have k21 := HF1.out.bs.c2; clear hb1 ho1)
  clear k0
  rename_i KR hKR KC hKC
  suffices hrest : ∀ (u18 u19 u20 u21 u22 u23 u24 u25 u26 u27 u28 u29 u30 u31 u32 u33 u34 u35 u36 u37 u38 u39 u40 u41 u42 u43 u44 u45 u46 u47 u48 u49 u50 u51 u52 u53 u54 u55 u56 u57 u58 u59 u60 u61 u62 u63 u64 u65 u66 u67 u68 u69 u70 u71 u72 u73 u74 u75 u76 u77 u78 u79 u80 u81 u82 u83 u84 u85 u86 u87 u88 u89 u90 u91 u92 u93 u94 u95 u96 u97 u98 u99 u100 u101 u102 u103 u104 u105 u106 u107 u108 u109 u110 u111 u112 u113 u114 u115 u116 u117 u118 u119 u120 u121 u122 u123 u124 u125 u126 u127 u128 u129 u130 u131 u132 u133 u134 u135 u136 u137 u138 u139 u140 u141 u142 u143 u144 u145 u146 u147 u148 u149 u150 u151 u152 u153 u154 u155 u156 u157 u158 u159 u160 u161 u162 u163 u164 u165 u166 u167 u168 u169 u170 u171 u172 u173 u174 u175 u176 u177 u178 u179 u180 u181 u182 u183 u184 u185 u186 u187 u188 u189 u190 u191 u192 u193 u194 u195 u196 u197 u198 u199 u200 u201 u202 u203 u204 u205 u206 u207 u208 u209 u210 u211 u212 u213 u214 u215 u216 u217 u218 u219 u220 u221 u222 u223 u224 u225 u226 u227 u228 u229 u230 u231 u232 u233 u234 u235 u236 u237 u238 u239 u240 u241 u242 u243 u244 u245 u246 u247 u248 u249 u250 u251 u252 u253 u254 u255 u256 u257 u258 u259 u260 u261 u262 u263 : Value) (wx : World), Hid (FS wx k g ts A n c q1 e1 v out most) → Hid (Keeps ts w wx) → KR { tmps := #[.pointer (some ⟨k, 0, none⟩), undef, .slice none 0 0, .slice none 0 0, .int .i64 LI, undef, undef, undef, undef, undef, undef, undef, undef, undef, undef, undef, undef, undef, u18, u19, u20, u21, u22, u23, u24, u25, u26, u27, u28, u29, u30, u31, u32, u33, u34, u35, u36, u37, u38, u39, u40, u41, u42, u43, u44, u45, u46, u47, u48, u49, u50, u51, u52, u53, u54, u55, u56, u57, u58, u59, u60, u61, u62, u63, u64, u65, u66, u67, u68, u69, u70, u71, u72, u73, u74, u75, u76, u77, u78, u79, u80, u81, u82, u83, u84, u85, u86, u87, u88, u89, u90, u91, u92, u93, u94, u95, u96, u97, u98, u99, u100, u101, u102, u103, u104, u105, u106, u107, u108, u109, u110, u111, u112, u113, u114, u115, u116, u117, u118, u119, u120, u121, u122, u123, u124, u125, u126, u127, u128, u129, u130, u131, u132, u133, u134, u135, u136, u137, u138, u139, u140, u141, u142, u143, u144, u145, u146, u147, u148, u149, u150, u151, u152, u153, u154, u155, u156, u157, u158, u159, u160, u161, u162, u163, u164, u165, u166, u167, u168, u169, u170, u171, u172, u173, u174, u175, u176, u177, u178, u179, u180, u181, u182, u183, u184, u185, u186, u187, u188, u189, u190, u191, u192, u193, u194, u195, u196, u197, u198, u199, u200, u201, u202, u203, u204, u205, u206, u207, u208, u209, u210, u211, u212, u213, u214, u215, u216, u217, u218, u219, u220, u221, u222, u223, u224, u225, u226, u227, u228, u229, u230, u231, u232, u233, u234, u235, u236, u237, u238, u239, u240, u241, u242, u243, u244, u245, u246, u247, u248, u249, u250, u251, u252, u253, u254, u255, u256, u257, u258, u259, u260, u261, u262, u263], defers := [] } wx by
    clear hKR
    by_cases hz0 : d1 = 0
    · subst hz0
      by_cases hfar : (286 < (LI : Int))
      · have hE : Hid (4 = e1) := Lib.hid (by
          have := HE1.out
          rw [if_pos ⟨rfl, hfar⟩] at this
          exact this)
        go_wp2_with (go_at_call 48; refine (fail_first g n c q1 4 A _ HF1.out.bs).mono ?_; rintro r w7 ⟨rfl, hb7, ho7⟩; have HF7 := Lib.hid (HF1.out.read ho7 hb7); have HK7 := Lib.hid (HK1.out.trans (ho7.keeps HF1.out.tg HF1.out.tb)); clear hb7 ho7)
        exact hrest _ _ _ _ _ _ _ _ _ _ _ _ _ _ _ _ _ _ _ _ _ _ _ _ _ _ _ _ _ _ _ _ _ _ _ _ _ _ _ _ _ _ _ _ _ _ _ _ _ _ _ _ _ _ _ _ _ _ _ _ _ _ _ _ _ _ _ _ _ _ _ _ _ _ _ _ _ _ _ _ _ _ _ _ _ _ _ _ _ _ _ _ _ _ _ _ _ _ _ _ _ _ _ _ _ _ _ _ _ _ _ _ _ _ _ _ _ _ _ _ _ _ _ _ _ _ _ _ _ _ _ _ _ _ _ _ _ _ _ _ _ _ _ _ _ _ _ _ _ _ _ _ _ _ _ _ _ _ _ _ _ _ _ _ _ _ _ _ _ _ _ _ _ _ _ _ _ _ _ _ _ _ _ _ _ _ _ _ _ _ _ _ _ _ _ _ _ _ _ _ _ _ _ _ _ _ _ _ _ _ _ _ _ _ _ _ _ _ _ _ _ _ _ _ _ _ _ _ _ _ _ _ _ _ _ _ _ _ _ _ _ _ _ _ _ _ _ (Lib.hid (by rw [← hE.out]; exact HF7.out)) HK7
      · have hE : Hid (0 = e1) := Lib.hid (by
          have := HE1.out
          rw [if_neg (fun h => hfar h.2)] at this
          exact this)
        go_wp2
        exact hrest _ _ _ _ _ _ _ _ _ _ _ _ _ _ _ _ _ _ _ _ _ _ _ _ _ _ _ _ _ _ _ _ _ _ _ _ _ _ _ _ _ _ _ _ _ _ _ _ _ _ _ _ _ _ _ _ _ _ _ _ _ _ _ _ _ _ _ _ _ _ _ _ _ _ _ _ _ _ _ _ _ _ _ _ _ _ _ _ _ _ _ _ _ _ _ _ _ _ _ _ _ _ _ _ _ _ _ _ _ _ _ _ _ _ _ _ _ _ _ _ _ _ _ _ _ _ _ _ _ _ _ _ _ _ _ _ _ _ _ _ _ _ _ _ _ _ _ _ _ _ _ _ _ _ _ _ _ _ _ _ _ _ _ _ _ _ _ _ _ _ _ _ _ _ _ _ _ _ _ _ _ _ _ _ _ _ _ _ _ _ _ _ _ _ _ _ _ _ _ _ _ _ _ _ _ _ _ _ _ _ _ _ _ _ _ _ _ _ _ _ _ _ _ _ _ _ _ _ _ _ _ _ _ _ _ _ _ _ _ _ _ _ _ _ _ _ _ (Lib.hid (by rw [← hE.out]; exact HF1.out)) HK1
    · have hz4 : (d1 == 0) = false := beq_eq_false_iff_ne.2 hz0
      have hE : Hid (d1 = e1) := Lib.hid (by
        have := HE1.out
        rw [if_neg (fun h => hz0 h.1)] at this
        exact this)
      clear hz0
      go_wp2
      exact hrest _ _ _ _ _ _ _ _ _ _ _ _ _ _ _ _ _ _ _ _ _ _ _ _ _ _ _ _ _ _ _ _ _ _ _ _ _ _ _ _ _ _ _ _ _ _ _ _ _ _ _ _ _ _ _ _ _ _ _ _ _ _ _ _ _ _ _ _ _ _ _ _ _ _ _ _ _ _ _ _ _ _ _ _ _ _ _ _ _ _ _ _ _ _ _ _ _ _ _ _ _ _ _ _ _ _ _ _ _ _ _ _ _ _ _ _ _ _ _ _ _ _ _ _ _ _ _ _ _ _ _ _ _ _ _ _ _ _ _ _ _ _ _ _ _ _ _ _ _ _ _ _ _ _ _ _ _ _ _ _ _ _ _ _ _ _ _ _ _ _ _ _ _ _ _ _ _ _ _ _ _ _ _ _ _ _ _ _ _ _ _ _ _ _ _ _ _ _ _ _ _ _ _ _ _ _ _ _ _ _ _ _ _ _ _ _ _ _ _ _ _ _ _ _ _ _ _ _ _ _ _ _ _ _ _ _ _ _ _ _ _ _ _ _ _ _ _ (Lib.hid (by rw [← hE.out]; exact HF1.out)) HK1
  intro u18 u19 u20 u21 u22 u23 u24 u25 u26 u27 u28 u29 u30 u31 u32 u33 u34 u35 u36 u37 u38 u39 u40 u41 u42 u43 u44 u45 u46 u47 u48 u49 u50 u51 u52 u53 u54 u55 u56 u57 u58 u59 u60 u61 u62 u63 u64 u65 u66 u67 u68 u69 u70 u71 u72 u73 u74 u75 u76 u77 u78 u79 u80 u81 u82 u83 u84 u85 u86 u87 u88 u89 u90 u91 u92 u93 u94 u95 u96 u97 u98 u99 u100 u101 u102 u103 u104 u105 u106 u107 u108 u109 u110 u111 u112 u113 u114 u115 u116 u117 u118 u119 u120 u121 u122 u123 u124 u125 u126 u127 u128 u129 u130 u131 u132 u133 u134 u135 u136 u137 u138 u139 u140 u141 u142 u143 u144 u145 u146 u147 u148 u149 u150 u151 u152 u153 u154 u155 u156 u157 u158 u159 u160 u161 u162 u163 u164 u165 u166 u167 u168 u169 u170 u171 u172 u173 u174 u175 u176 u177 u178 u179 u180 u181 u182 u183 u184 u185 u186 u187 u188 u189 u190 u191 u192 u193 u194 u195 u196 u197 u198 u199 u200 u201 u202 u203 u204 u205 u206 u207 u208 u209 u210 u211 u212 u213 u214 u215 u216 u217 u218 u219 u220 u221 u222 u223 u224 u225 u226 u227 u228 u229 u230 u231 u232 u233 u234 u235 u236 u237 u238 u239 u240 u241 u242 u243 u244 u245 u246 u247 u248 u249 u250 u251 u252 u253 u254 u255 u256 u257 u258 u259 u260 u261 u262 u263 wx HG1 HJ1
  refine hKR _ _ ?_
  clear hKR hKC KC KR
  clear k01 k21
  have k0 := HG1.out.c0
  go_upto_region 5 with (go_at_call 44; refine (HT.out _ ts q1 e1 5 Y2 q2 d2 HJ1.out HG1.out HQ1.out (by omega) T2.out).mono ?_; rintro r w2 ⟨rfl, hb2, ho2⟩; have HF2 := Lib.hid (HG1.out.read ho2 hb2); have HK2 := Lib.hid (HJ1.out.trans (ho2.keeps HG1.out.tg HG1.out.tb)); have k02 := HF2.out.c0; have k22 := HF2.out.bs.c2; clear hb2 ho2)
  clear k0
  rename_i KR hKR KC hKC
  suffices hrest : ∀ (u18 u19 u20 u21 u22 u23 u24 u25 u26 u27 u28 u29 u30 u31 u32 u33 u34 u35 u36 u37 u38 u39 u40 u41 u42 u43 u44 u45 u46 u47 u48 u49 u50 u51 u52 u53 u54 u55 u56 u57 u58 u59 u60 u61 u62 u63 u64 u65 u66 u67 u68 u69 u70 u71 u72 u73 u74 u75 u76 u77 u78 u79 u80 u81 u82 u83 u84 u85 u86 u87 u88 u89 u90 u91 u92 u93 u94 u95 u96 u97 u98 u99 u100 u101 u102 u103 u104 u105 u106 u107 u108 u109 u110 u111 u112 u113 u114 u115 u116 u117 u118 u119 u120 u121 u122 u123 u124 u125 u126 u127 u128 u129 u130 u131 u132 u133 u134 u135 u136 u137 u138 u139 u140 u141 u142 u143 u144 u145 u146 u147 u148 u149 u150 u151 u152 u153 u154 u155 u156 u157 u158 u159 u160 u161 u162 u163 u164 u165 u166 u167 u168 u169 u170 u171 u172 u173 u174 u175 u176 u177 u178 u179 u180 u181 u182 u183 u184 u185 u186 u187 u188 u189 u190 u191 u192 u193 u194 u195 u196 u197 u198 u199 u200 u201 u202 u203 u204 u205 u206 u207 u208 u209 u210 u211 u212 u213 u214 u215 u216 u217 u218 u219 u220 u221 u222 u223 u224 u225 u226 u227 u228 u229 u230 u231 u232 u233 u234 u235 u236 u237 u238 u239 u240 u241 u242 u243 u244 u245 u246 u247 u248 u249 u250 u251 u252 u253 u254 u255 u256 u257 u258 u259 u260 u261 u262 u263 : Value) (wx : World), Hid (FS wx k g ts A n c q2 e2 v out most) → Hid (Keeps ts w wx) → KR { tmps := #[.pointer (some ⟨k, 0, none⟩), undef, .slice none 0 0, .slice none 0 0, .int .i64 LI, .int .i64 DI, undef, undef, undef, undef, undef, undef, undef, undef, undef, undef, undef, undef, u18, u19, u20, u21, u22, u23, u24, u25, u26, u27, u28, u29, u30, u31, u32, u33, u34, u35, u36, u37, u38, u39, u40, u41, u42, u43, u44, u45, u46, u47, u48, u49, u50, u51, u52, u53, u54, u55, u56, u57, u58, u59, u60, u61, u62, u63, u64, u65, u66, u67, u68, u69, u70, u71, u72, u73, u74, u75, u76, u77, u78, u79, u80, u81, u82, u83, u84, u85, u86, u87, u88, u89, u90, u91, u92, u93, u94, u95, u96, u97, u98, u99, u100, u101, u102, u103, u104, u105, u106, u107, u108, u109, u110, u111, u112, u113, u114, u115, u116, u117, u118, u119, u120, u121, u122, u123, u124, u125, u126, u127, u128, u129, u130, u131, u132, u133, u134, u135, u136, u137, u138, u139, u140, u141, u142, u143, u144, u145, u146, u147, u148, u149, u150, u151, u152, u153, u154, u155, u156, u157, u158, u159, u160, u161, u162, u163, u164, u165, u166, u167, u168, u169, u170, u171, u172, u173, u174, u175, u176, u177, u178, u179, u180, u181, u182, u183, u184, u185, u186, u187, u188, u189, u190, u191, u192, u193, u194, u195, u196, u197, u198, u199, u200, u201, u202, u203, u204, u205, u206, u207, u208, u209, u210, u211, u212, u213, u214, u215, u216, u217, u218, u219, u220, u221, u222, u223, u224, u225, u226, u227, u228, u229, u230, u231, u232, u233, u234, u235, u236, u237, u238, u239, u240, u241, u242, u243, u244, u245, u246, u247, u248, u249, u250, u251, u252, u253, u254, u255, u256, u257, u258, u259, u260, u261, u262, u263], defers := [] } wx by
    clear hKR
    by_cases hz0 : d2 = 0
    · subst hz0
      by_cases hfar : (30 < (DI : Int))
      · have hE : Hid (4 = e2) := Lib.hid (by
          have := HE2.out
          rw [if_pos ⟨rfl, hfar⟩] at this
          exact this)
        go_wp2_with (go_at_call 48; refine (fail_first g n c q2 4 A _ HF2.out.bs).mono ?_; rintro r w7 ⟨rfl, hb7, ho7⟩; have HF7 := Lib.hid (HF2.out.read ho7 hb7); have HK7 := Lib.hid (HK2.out.trans (ho7.keeps HF2.out.tg HF2.out.tb)); clear hb7 ho7)
        exact hrest _ _ _ _ _ _ _ _ _ _ _ _ _ _ _ _ _ _ _ _ _ _ _ _ _ _ _ _ _ _ _ _ _ _ _ _ _ _ _ _ _ _ _ _ _ _ _ _ _ _ _ _ _ _ _ _ _ _ _ _ _ _ _ _ _ _ _ _ _ _ _ _ _ _ _ _ _ _ _ _ _ _ _ _ _ _ _ _ _ _ _ _ _ _ _ _ _ _ _ _ _ _ _ _ _ _ _ _ _ _ _ _ _ _ _ _ _ _ _ _ _ _ _ _ _ _ _ _ _ _ _ _ _ _ _ _ _ _ _ _ _ _ _ _ _ _ _ _ _ _ _ _ _ _ _ _ _ _ _ _ _ _ _ _ _ _ _ _ _ _ _ _ _ _ _ _ _ _ _ _ _ _ _ _ _ _ _ _ _ _ _ _ _ _ _ _ _ _ _ _ _ _ _ _ _ _ _ _ _ _ _ _ _ _ _ _ _ _ _ _ _ _ _ _ _ _ _ _ _ _ _ _ _ _ _ _ _ _ _ _ _ _ _ _ _ _ _ (Lib.hid (by rw [← hE.out]; exact HF7.out)) HK7
      · have hE : Hid (0 = e2) := Lib.hid (by
          have := HE2.out
          rw [if_neg (fun h => hfar h.2)] at this
          exact this)
        go_wp2
        exact hrest _ _ _ _ _ _ _ _ _ _ _ _ _ _ _ _ _ _ _ _ _ _ _ _ _ _ _ _ _ _ _ _ _ _ _ _ _ _ _ _ _ _ _ _ _ _ _ _ _ _ _ _ _ _ _ _ _ _ _ _ _ _ _ _ _ _ _ _ _ _ _ _ _ _ _ _ _ _ _ _ _ _ _ _ _ _ _ _ _ _ _ _ _ _ _ _ _ _ _ _ _ _ _ _ _ _ _ _ _ _ _ _ _ _ _ _ _ _ _ _ _ _ _ _ _ _ _ _ _ _ _ _ _ _ _ _ _ _ _ _ _ _ _ _ _ _ _ _ _ _ _ _ _ _ _ _ _ _ _ _ _ _ _ _ _ _ _ _ _ _ _ _ _ _ _ _ _ _ _ _ _ _ _ _ _ _ _ _ _ _ _ _ _ _ _ _ _ _ _ _ _ _ _ _ _ _ _ _ _ _ _ _ _ _ _ _ _ _ _ _ _ _ _ _ _ _ _ _ _ _ _ _ _ _ _ _ _ _ _ _ _ _ _ _ _ _ _ (Lib.hid (by rw [← hE.out]; exact HF2.out)) HK2
    · have hz4 : (d2 == 0) = false := beq_eq_false_iff_ne.2 hz0
      have hE : Hid (d2 = e2) := Lib.hid (by
        have := HE2.out
        rw [if_neg (fun h => hz0 h.1)] at this
        exact this)
      clear hz0
      go_wp2
      exact hrest _ _ _ _ _ _ _ _ _ _ _ _ _ _ _ _ _ _ _ _ _ _ _ _ _ _ _ _ _ _ _ _ _ _ _ _ _ _ _ _ _ _ _ _ _ _ _ _ _ _ _ _ _ _ _ _ _ _ _ _ _ _ _ _ _ _ _ _ _ _ _ _ _ _ _ _ _ _ _ _ _ _ _ _ _ _ _ _ _ _ _ _ _ _ _ _ _ _ _ _ _ _ _ _ _ _ _ _ _ _ _ _ _ _ _ _ _ _ _ _ _ _ _ _ _ _ _ _ _ _ _ _ _ _ _ _ _ _ _ _ _ _ _ _ _ _ _ _ _ _ _ _ _ _ _ _ _ _ _ _ _ _ _ _ _ _ _ _ _ _ _ _ _ _ _ _ _ _ _ _ _ _ _ _ _ _ _ _ _ _ _ _ _ _ _ _ _ _ _ _ _ _ _ _ _ _ _ _ _ _ _ _ _ _ _ _ _ _ _ _ _ _ _ _ _ _ _ _ _ _ _ _ _ _ _ _ _ _ _ _ _ _ _ _ _ _ _ (Lib.hid (by rw [← hE.out]; exact HF2.out)) HK2
  intro u18 u19 u20 u21 u22 u23 u24 u25 u26 u27 u28 u29 u30 u31 u32 u33 u34 u35 u36 u37 u38 u39 u40 u41 u42 u43 u44 u45 u46 u47 u48 u49 u50 u51 u52 u53 u54 u55 u56 u57 u58 u59 u60 u61 u62 u63 u64 u65 u66 u67 u68 u69 u70 u71 u72 u73 u74 u75 u76 u77 u78 u79 u80 u81 u82 u83 u84 u85 u86 u87 u88 u89 u90 u91 u92 u93 u94 u95 u96 u97 u98 u99 u100 u101 u102 u103 u104 u105 u106 u107 u108 u109 u110 u111 u112 u113 u114 u115 u116 u117 u118 u119 u120 u121 u122 u123 u124 u125 u126 u127 u128 u129 u130 u131 u132 u133 u134 u135 u136 u137 u138 u139 u140 u141 u142 u143 u144 u145 u146 u147 u148 u149 u150 u151 u152 u153 u154 u155 u156 u157 u158 u159 u160 u161 u162 u163 u164 u165 u166 u167 u168 u169 u170 u171 u172 u173 u174 u175 u176 u177 u178 u179 u180 u181 u182 u183 u184 u185 u186 u187 u188 u189 u190 u191 u192 u193 u194 u195 u196 u197 u198 u199 u200 u201 u202 u203 u204 u205 u206 u207 u208 u209 u210 u211 u212 u213 u214 u215 u216 u217 u218 u219 u220 u221 u222 u223 u224 u225 u226 u227 u228 u229 u230 u231 u232 u233 u234 u235 u236 u237 u238 u239 u240 u241 u242 u243 u244 u245 u246 u247 u248 u249 u250 u251 u252 u253 u254 u255 u256 u257 u258 u259 u260 u261 u262 u263 wx HG2 HJ2
  refine hKR _ _ ?_
  clear hKR hKC KC KR
  clear k02 k22
  have k0 := HG2.out.c0
  have hm19 := make_code19
  obtain ⟨Z1, hZ1⟩ : ∃ Z, zeroC 19 = Z := ⟨_, rfl⟩
  rw [hZ1] at hm19
  have HZ1 := Lib.hid hZ1
  clear hZ1
  go_wp2_with (go_at_call 44; refine (HT.out _ ts q2 e2 4 Y3 q3 d3 HJ2.out HG2.out HQ2.out (by omega) T3.out).mono ?_; rintro r w3 ⟨rfl, hb3, ho3⟩; have HF3 := Lib.hid (HG2.out.read ho3 hb3); have HK3 := Lib.hid (HJ2.out.trans (ho3.keeps HG2.out.tg HG2.out.tb)); have k03 := HF3.out.c0; clear hb3 ho3)
  have hsz3 := HF3.out
  obtain ⟨bo, hbo⟩ : ∃ bo, w3.heap.size = bo := ⟨_, rfl⟩
  have HSEP : Hid (g < bo ∧ k < bo ∧ (∀ b, v.ownBlock = some b → b < bo) ∧ (∀ i, ts i → i < bo)) := Lib.hid (by rw [← hbo]; exact ⟨hsz3.bs.lt, hsz3.lt, hsz3.own_lt, hsz3.tb⟩)
  obtain ⟨W4, hW4⟩ : ∃ W4, ((w3.alloc (.cells #[.int .i64 16, .int .i64 17, .int .i64 18, .int .i64 0, .int .i64 8, .int .i64 7, .int .i64 9, .int .i64 6, .int .i64 10, .int .i64 5, .int .i64 11, .int .i64 4, .int .i64 12, .int .i64 3, .int .i64 13, .int .i64 2, .int .i64 14, .int .i64 1, .int .i64 15] 3)).alloc (.cells Z1 3)) = W4 := ⟨_, rfl⟩
  have HB4 : Hid (Below w3.heap.size w3 W4) := Lib.hid (by rw [← hW4]; exact ((Below.refl _ _).alloc (Nat.le_refl _) _).alloc (by simp) _)
  have HO4 : Hid (IRow W4 bo ordL) := Lib.hid (by
    rw [← hW4, ← hbo]
    exact IRow.below (heap_alloc_new w3 _) ((Below.refl _ _).alloc (Nat.le_refl _) _) (by simp))
  have HC4 : Hid (IRow W4 (bo + 1) (List.replicate 19 0)) := Lib.hid (by
    rw [← hW4, ← hbo, ← HZ1.out]
    have h := zeroC_row (w3.alloc (.cells #[.int .i64 16, .int .i64 17, .int .i64 18, .int .i64 0, .int .i64 8, .int .i64 7, .int .i64 9, .int .i64 6, .int .i64 10, .int .i64 5, .int .i64 11, .int .i64 4, .int .i64 12, .int .i64 3, .int .i64 13, .int .i64 2, .int .i64 14, .int .i64 1, .int .i64 15] 3)) 19
    rw [World.size_alloc] at h
    exact h)
  have HF4 : Hid (FS W4 k g ts A n c q3 d3 v out most) := Lib.hid (HF3.out.more HB4.out)
  have HK4 : Hid (Keeps ts w W4) := Lib.hid (HK3.out.trans (below_keeps HB4.out HF3.out.tb))
  rw [hW4, hbo]
  clear hsz3 hW4 hbo k0 k03 hm19
  go_loopw [9] (fun i wr => ∃ (j q : Nat) (e : Int) (cl : List Int), j ≤ MA ∧ i = .int .i64 j ∧ Hid (clR zs (MA - j) j q e cl = (q4, d4, cl4)) ∧ Hid (q ≤ 8 * n) ∧ Hid (cl.length = 19) ∧ Hid (FS wr k g ts A n c q e v out most) ∧ Hid (IRow wr (bo + 1) cl) ∧ Hid (IRow wr bo ordL) ∧ Hid (Keeps ts w wr)) (fun i _ => MA - (intOf i).toNat)
  case atStart => exact ⟨0, q3, d3, _, Nat.zero_le _, rfl, T4, HQ3, Lib.hid (by simp), HF4, HC4, HO4, HK4⟩
  case round =>
    obtain ⟨j, q, e, cl, hj, rfl, HCL, HQ, HCN, HF, HCR, HOR, HK⟩ := hrel
    have k0 := HF.out.c0
    by_cases hlt : j < MA
    · obtain ⟨y, q6, d6, t6⟩ : ∃ y qx dx, takeS zs q e 3 = (y, qx, dx) := ⟨_, _, _, rfl⟩
      have hv6 := takeS_v zs q e 3
      have hq6 := (takeS_p zs q e 3 (by rw [HLEN.out]; exact HQ.out)).1
      have hcl := HCL.out
      rw [show MA - j = (MA - (j + 1)) + 1 by omega, clR, t6] at hcl
      rw [t6] at hv6 hq6
      rw [HLEN.out] at hq6
      dsimp only at hcl hv6 hq6
      have hor := ordL_lt j (by omega)
      have ck := HOR.out.cell j (by show j < 19; omega)
      obtain ⟨x, hx⟩ : ∃ x : Nat, ordL.getD j 0 = x := ⟨(ordL.getD j 0).toNat, by omega⟩
      rw [hx] at ck hor hcl
      rw [Int.toNat_natCast] at hcl
      have hx19 : (x : Int) < 19 := hor.2
      have hx19n : x < 19 := by omega
      have hj19 : j < 19 := by omega
      have hji : (j : Int) < 19 := by omega
      have hj0 : (0 : Int) ≤ j := by omega
      have hx0 : (0 : Int) ≤ x := by omega
      have HCL2 := Lib.hid hcl
      have HQ6 := Lib.hid hq6
      have HTK := Lib.hid (HT.out _ ts q e 3 y q6 d6 (HK.out.drewN 1) (HF.out.drewN 1) HQ.out (by omega) t6)
      have HX := Lib.hid hx
      have HV6 := Lib.hid hv6
      clear hcl hq6 hv6 t6 hx hor
      go_upto_region 13 with fail
      go_region_with (go_at_call 44; refine HTK.out.mono ?_; rintro r w9 ⟨rfl, hb9, ho9⟩; have HF9 := Lib.hid ((HF.out.drewN 1).read ho9 hb9); have HK9 := Lib.hid ((HK.out.drewN 1).trans (ho9.keeps HF.out.tg HF.out.tb)); have HO9 : Hid (IRow w9 bo ordL) := Lib.hid ((ho9.block bo HOR.out.lt (by have := HSEP.out.1; omega)).trans HOR.out); have HC9 : Hid (IRow w9 (bo + 1) cl) := Lib.hid ((ho9.block (bo + 1) HCR.out.lt (by have := HSEP.out.1; omega)).trans HCR.out); have ck9 := HO9.out.cell j (by show j < 19; omega); rw [HX.out] at ck9; have cc9 := HC9.out.cell x (by rw [HCN.out]; omega); have cf9 := HC9.out.fr x; clear hb9 ho9)
      all_goals
        have HB1 : bo + 1 ≠ k ∧ bo + 1 ≠ g := by have := HSEP.out; omega
        have HFR := Lib.hid (HF9.out.kept (w' := w9.setCell ⟨bo + 1, x, none⟩ (.int .i64 y)) (by simp [World.setCell]) (fun i _ hi => Below.heap_setCell _ _ _ i (by
          have := HSEP.out
          rcases hi with rfl | rfl | hi
          · show i ≠ bo + 1; omega
          · show i ≠ bo + 1; omega
          · have := this.2.2.1 i hi; show i ≠ bo + 1; omega)))
        have HKR := Lib.hid (HK9.out.trans (show Keeps ts w9 (w9.setCell ⟨bo + 1, x, none⟩ (.int .i64 y)) from ⟨rfl, rfl, rfl, by simp [World.setCell], fun i hi => Below.heap_setCell _ _ _ i (by have := HSEP.out.2.2.2 i hi; show i ≠ bo + 1; omega)⟩))
        have HCRR := Lib.hid (HC9.out.put x y)
        have HORR : Hid (IRow (w9.setCell ⟨bo + 1, x, none⟩ (.int .i64 y)) bo ordL) := Lib.hid (HO9.out.set_ne (by omega) _ _)
        clear HB1 ck9 cc9 cf9
        go_wp2
        go_roundw
        case rel => exact ⟨j + 1, q6, d6, _, by omega, by go_num, HCL2, HQ6, Lib.hid (by simp [HCN.out]), HFR, HCRR, HORR, HKR⟩
        case measure => simp [intOf]; omega
    · obtain rfl : j = MA := by omega
      obtain ⟨rfl, hh⟩ := Prod.mk.inj (show (q, e, cl) = (q4, d4, cl4) by have := HCL.out; rw [Nat.sub_self] at this; exact this)
      obtain ⟨rfl, rfl⟩ := Prod.mk.inj hh
      clear hh
      have k2 := HF.out.bs.c2
      go_upto_region 14 with fail
      rename_i KR hKR KC hKC
      suffices hrest : ∀ (u18 u19 u20 u21 u22 u23 u24 u25 u26 u27 u28 u29 u30 u31 u32 u33 u34 u35 u36 u37 u38 u39 u40 u41 u42 u43 u44 u45 u46 u47 u48 u49 u50 u51 u52 u53 u54 u55 u56 u57 u58 u59 u60 u61 u62 u63 u64 u65 u66 u67 u68 u69 u70 u71 u72 u73 u74 u75 u76 u77 u78 u79 u80 u81 u82 u83 u84 u85 u86 u87 u88 u89 u90 u91 u92 u93 u94 u95 u96 u97 u98 u99 u100 u101 u102 u103 u104 u105 u106 u107 u108 u109 u110 u111 u112 u113 u114 u115 u116 u117 u118 u119 u120 u121 u122 u123 u124 u125 u126 u127 u128 u129 u130 u131 u132 u133 u134 u135 u136 u137 u138 u139 u140 u141 u142 u143 u144 u145 u146 u147 u148 u149 u150 u151 u152 u153 u154 u155 u156 u157 u158 u159 u160 u161 u162 u163 u164 u165 u166 u167 u168 u169 u170 u171 u172 u173 u174 u175 u176 u177 u178 u179 u180 u181 u182 u183 u184 u185 u186 u187 u188 u189 u190 u191 u192 u193 u194 u195 u196 u197 u198 u199 u200 u201 u202 u203 u204 u205 u206 u207 u208 u209 u210 u211 u212 u213 u214 u215 u216 u217 u218 u219 u220 u221 u222 u223 u224 u225 u226 u227 u228 u229 u230 u231 u232 u233 u234 u235 u236 u237 u238 u239 u240 u241 u242 u243 u244 u245 u246 u247 u248 u249 u250 u251 u252 u253 u254 u255 u256 u257 u258 u259 u260 u261 u262 u263 : Value) (wx : World), Hid (FS wx k g ts A n c q e4 v out most) → Hid (Keeps ts w wx) → Hid (IRow wx (bo + 1) cl) → KR { tmps := #[.pointer (some ⟨k, 0, none⟩), undef, .slice none 0 0, .slice none 0 0, .int .i64 LI, .int .i64 DI, .int .i64 j, .slice (some ⟨bo, 0, none⟩) 19 19, .slice (some ⟨bo + 1, 0, none⟩) 19 19, .int .i64 j, undef, undef, undef, undef, undef, undef, undef, undef, u18, u19, u20, u21, u22, u23, u24, u25, u26, u27, u28, u29, u30, u31, u32, u33, u34, u35, u36, u37, u38, u39, u40, u41, u42, u43, u44, u45, u46, u47, u48, u49, u50, u51, u52, u53, u54, u55, u56, u57, u58, u59, u60, u61, u62, u63, u64, u65, u66, u67, u68, u69, u70, u71, u72, u73, u74, u75, u76, u77, u78, u79, u80, u81, u82, u83, u84, u85, u86, u87, u88, u89, u90, u91, u92, u93, u94, u95, u96, u97, u98, u99, u100, u101, u102, u103, u104, u105, u106, u107, u108, u109, u110, u111, u112, u113, u114, u115, u116, u117, u118, u119, u120, u121, u122, u123, u124, u125, u126, u127, u128, u129, u130, u131, u132, u133, u134, u135, u136, u137, u138, u139, u140, u141, u142, u143, u144, u145, u146, u147, u148, u149, u150, u151, u152, u153, u154, u155, u156, u157, u158, u159, u160, u161, u162, u163, u164, u165, u166, u167, u168, u169, u170, u171, u172, u173, u174, u175, u176, u177, u178, u179, u180, u181, u182, u183, u184, u185, u186, u187, u188, u189, u190, u191, u192, u193, u194, u195, u196, u197, u198, u199, u200, u201, u202, u203, u204, u205, u206, u207, u208, u209, u210, u211, u212, u213, u214, u215, u216, u217, u218, u219, u220, u221, u222, u223, u224, u225, u226, u227, u228, u229, u230, u231, u232, u233, u234, u235, u236, u237, u238, u239, u240, u241, u242, u243, u244, u245, u246, u247, u248, u249, u250, u251, u252, u253, u254, u255, u256, u257, u258, u259, u260, u261, u262, u263], defers := [] } wx by
        clear hKR
        by_cases hz0 : e = 0
        · subst hz0
          have HM := Lib.hid (mayC (some ⟨bo + 1, 0, none⟩) 19 19 _ cl wr (HCR.out.nums HCN.out) (by omega) (fun i => (HL4.out i).1) (fun i => (HL4.out i).2))
          rcases hT : mayS cl with _ | _
          · rw [hT] at HM
            have hE : Hid (4 = e4) := Lib.hid (by
              have := HE4.out
              rw [if_pos ⟨rfl, hT⟩] at this
              exact this)
            clear hT
            go_wp2_with (first
              | (go_at_call 59; refine HM.out.mono ?_; rintro r w7 ⟨rfl, rfl⟩; dsimp only)
              | (go_at_call 48; refine (fail_first g n c q 4 A _ HF.out.bs).mono ?_; rintro r w7 ⟨rfl, hb7, ho7⟩; have HF7 := Lib.hid (HF.out.read ho7 hb7); have HK7 := Lib.hid (HK.out.trans (ho7.keeps HF.out.tg HF.out.tb)); have HC7 : Hid (IRow w7 (bo + 1) cl) := Lib.hid ((ho7.block (bo + 1) HCR.out.lt (by have := HSEP.out.1; omega)).trans HCR.out); clear hb7 ho7))
            exact hrest _ _ _ _ _ _ _ _ _ _ _ _ _ _ _ _ _ _ _ _ _ _ _ _ _ _ _ _ _ _ _ _ _ _ _ _ _ _ _ _ _ _ _ _ _ _ _ _ _ _ _ _ _ _ _ _ _ _ _ _ _ _ _ _ _ _ _ _ _ _ _ _ _ _ _ _ _ _ _ _ _ _ _ _ _ _ _ _ _ _ _ _ _ _ _ _ _ _ _ _ _ _ _ _ _ _ _ _ _ _ _ _ _ _ _ _ _ _ _ _ _ _ _ _ _ _ _ _ _ _ _ _ _ _ _ _ _ _ _ _ _ _ _ _ _ _ _ _ _ _ _ _ _ _ _ _ _ _ _ _ _ _ _ _ _ _ _ _ _ _ _ _ _ _ _ _ _ _ _ _ _ _ _ _ _ _ _ _ _ _ _ _ _ _ _ _ _ _ _ _ _ _ _ _ _ _ _ _ _ _ _ _ _ _ _ _ _ _ _ _ _ _ _ _ _ _ _ _ _ _ _ _ _ _ _ _ _ _ _ _ _ _ _ _ _ _ _ (Lib.hid (by rw [← hE.out]; exact HF7.out)) HK7 HC7
          · rw [hT] at HM
            have hE : Hid (0 = e4) := Lib.hid (by
              have := HE4.out
              rw [if_neg (fun h => by rw [hT] at h; exact absurd h.2 (by decide))] at this
              exact this)
            clear hT
            go_wp2_with (go_at_call 59; refine HM.out.mono ?_; rintro r w7 ⟨rfl, rfl⟩; dsimp only)
            exact hrest _ _ _ _ _ _ _ _ _ _ _ _ _ _ _ _ _ _ _ _ _ _ _ _ _ _ _ _ _ _ _ _ _ _ _ _ _ _ _ _ _ _ _ _ _ _ _ _ _ _ _ _ _ _ _ _ _ _ _ _ _ _ _ _ _ _ _ _ _ _ _ _ _ _ _ _ _ _ _ _ _ _ _ _ _ _ _ _ _ _ _ _ _ _ _ _ _ _ _ _ _ _ _ _ _ _ _ _ _ _ _ _ _ _ _ _ _ _ _ _ _ _ _ _ _ _ _ _ _ _ _ _ _ _ _ _ _ _ _ _ _ _ _ _ _ _ _ _ _ _ _ _ _ _ _ _ _ _ _ _ _ _ _ _ _ _ _ _ _ _ _ _ _ _ _ _ _ _ _ _ _ _ _ _ _ _ _ _ _ _ _ _ _ _ _ _ _ _ _ _ _ _ _ _ _ _ _ _ _ _ _ _ _ _ _ _ _ _ _ _ _ _ _ _ _ _ _ _ _ _ _ _ _ _ _ _ _ _ _ _ _ _ _ _ _ _ _ (Lib.hid (by rw [← hE.out]; exact HF.out)) HK HCR
        · have hz4 : (e == 0) = false := beq_eq_false_iff_ne.2 hz0
          have hE : Hid (e = e4) := Lib.hid (by
            have := HE4.out
            rw [if_neg (fun h => hz0 h.1)] at this
            exact this)
          clear hz0
          go_wp2
          exact hrest _ _ _ _ _ _ _ _ _ _ _ _ _ _ _ _ _ _ _ _ _ _ _ _ _ _ _ _ _ _ _ _ _ _ _ _ _ _ _ _ _ _ _ _ _ _ _ _ _ _ _ _ _ _ _ _ _ _ _ _ _ _ _ _ _ _ _ _ _ _ _ _ _ _ _ _ _ _ _ _ _ _ _ _ _ _ _ _ _ _ _ _ _ _ _ _ _ _ _ _ _ _ _ _ _ _ _ _ _ _ _ _ _ _ _ _ _ _ _ _ _ _ _ _ _ _ _ _ _ _ _ _ _ _ _ _ _ _ _ _ _ _ _ _ _ _ _ _ _ _ _ _ _ _ _ _ _ _ _ _ _ _ _ _ _ _ _ _ _ _ _ _ _ _ _ _ _ _ _ _ _ _ _ _ _ _ _ _ _ _ _ _ _ _ _ _ _ _ _ _ _ _ _ _ _ _ _ _ _ _ _ _ _ _ _ _ _ _ _ _ _ _ _ _ _ _ _ _ _ _ _ _ _ _ _ _ _ _ _ _ _ _ _ _ _ _ _ (Lib.hid (by rw [← hE.out]; exact HF.out)) HK HCR
      intro u18 u19 u20 u21 u22 u23 u24 u25 u26 u27 u28 u29 u30 u31 u32 u33 u34 u35 u36 u37 u38 u39 u40 u41 u42 u43 u44 u45 u46 u47 u48 u49 u50 u51 u52 u53 u54 u55 u56 u57 u58 u59 u60 u61 u62 u63 u64 u65 u66 u67 u68 u69 u70 u71 u72 u73 u74 u75 u76 u77 u78 u79 u80 u81 u82 u83 u84 u85 u86 u87 u88 u89 u90 u91 u92 u93 u94 u95 u96 u97 u98 u99 u100 u101 u102 u103 u104 u105 u106 u107 u108 u109 u110 u111 u112 u113 u114 u115 u116 u117 u118 u119 u120 u121 u122 u123 u124 u125 u126 u127 u128 u129 u130 u131 u132 u133 u134 u135 u136 u137 u138 u139 u140 u141 u142 u143 u144 u145 u146 u147 u148 u149 u150 u151 u152 u153 u154 u155 u156 u157 u158 u159 u160 u161 u162 u163 u164 u165 u166 u167 u168 u169 u170 u171 u172 u173 u174 u175 u176 u177 u178 u179 u180 u181 u182 u183 u184 u185 u186 u187 u188 u189 u190 u191 u192 u193 u194 u195 u196 u197 u198 u199 u200 u201 u202 u203 u204 u205 u206 u207 u208 u209 u210 u211 u212 u213 u214 u215 u216 u217 u218 u219 u220 u221 u222 u223 u224 u225 u226 u227 u228 u229 u230 u231 u232 u233 u234 u235 u236 u237 u238 u239 u240 u241 u242 u243 u244 u245 u246 u247 u248 u249 u250 u251 u252 u253 u254 u255 u256 u257 u258 u259 u260 u261 u262 u263 wx HF5 HK5 HC5
      refine hKR _ _ ?_
      clear hKR hKC KC KR k0 k2
      have HCO := Lib.hid (codesC (some ⟨bo + 1, 0, none⟩) 19 19 _ cl wx (HC5.out.nums HCN.out) (Nat.le_refl _) (by omega))
      obtain ⟨bd, hbd⟩ : ∃ bd, wx.heap.size = bd := ⟨_, rfl⟩
      have HBD := Lib.hid hbd
      rw [hbd] at HCO
      clear hbd
      go_wp2_with (go_at_call 36; refine HCO.out.mono ?_; rintro r w6 ⟨rfl, hr6, hb6⟩; have HR6 := Lib.hid hr6; have HB6 := Lib.hid hb6; clear hr6 hb6)
      obtain ⟨us, hus⟩ : ∃ us : Nat → Prop, us = fun i => ts i ∨ i = bo + 1 ∨ i = bd := ⟨_, rfl⟩
      have HSB : Hid (bo + 1 < bd) := Lib.hid (by have := HC5.out.lt; have := HBD.out; omega)
      have HF6 : Hid (FS w6 k g us A n c q e4 v out most) := Lib.hid ((HF5.out.more (by rw [HBD.out]; exact HB6.out)).with us (by
        subst hus
        intro i hi
        have h1 := HSB.out
        have h2 := HSEP.out
        have h3 := HR6.out.lt
        rcases hi with hi | rfl | rfl
        · exact ⟨Nat.lt_of_lt_of_le (HF5.out.tb i hi) (by have := HB6.out.size; have := HBD.out; omega), fun e => HF5.out.tk (e ▸ hi), fun e => HF5.out.tg (e ▸ hi), fun e => (HF5.out.own i e).1 hi⟩
        · exact ⟨by omega, by omega, by omega, fun e => by have := h2.2.2.1 _ e; omega⟩
        · exact ⟨h3, by omega, by omega, fun e => by have := h2.2.2.1 _ e; omega⟩))
      have HTU : Hid (∀ i, ts i → us i) := Lib.hid (by subst hus; exact fun i hi => .inl hi)
      have HUC : Hid (us (bo + 1)) := Lib.hid (by subst hus; exact .inr (.inl rfl))
      have HUD : Hid (us bd) := Lib.hid (by subst hus; exact .inr (.inr rfl))
      clear hus
      have HC6 : Hid (IRow w6 (bo + 1) cl) := Lib.hid (HC5.out.below HB6.out HSB.out)
      have HKT : Hid (∀ W, Keeps us w6 W → Keeps ts w W) := Lib.hid fun W hW => (HK5.out.trans (below_keeps (B := wx.heap.size) (by rw [HBD.out]; exact HB6.out) HF5.out.tb)).trans (hW.sub HTU.out)
      have HT2 := Lib.hid (fun W p e m y q d (hW : Keeps us w6 W) (h : FS W k g us A n c p e v out most) (hp : p ≤ 8 * n) (hm : m ≤ 16) hs => HT.out W us p e m y q d (HKT.out W hW) h hp hm hs)
      have HSY := Lib.hid (fun W q e s q' e' (hW : Keeps us w6 W) (hF : FS W k g us A n c q e v out most) (hq : q ≤ 8 * n) (hs : symS zs cl (codesS cl) q e = (s, q', e')) =>
        symC g n c q B 19 19 19 19 e A (some ⟨bo + 1, 0, none⟩) (some ⟨bd, 0, none⟩) zs cl (codesS cl) W hF.bs (HYB.out W (HKT.out W hW)) hBg hn hq
          (fun X hX => IRow.nums ((((hW.trans (hX.keeps hF.tg hF.tb)).block (bo + 1) HUC.out)).trans HC6.out) HCN.out) (fun X hX => IRow.nums ((((hW.trans (hX.keeps hF.tg hF.tb)).block bd HUD.out)).trans HR6.out) (by unfold codesS; rw [codesN_len, HCN.out])) (by omega) (Nat.le_refl _) s q' e' hs)
      have HK6 : Hid (Keeps us w6 w6) := Lib.hid (Keeps.refl _ _)
      go_loopw [11] (fun vl wr => ∃ (F q : Nat) (e : Int) (A1 : Option Addr) (c1 N : Nat) (l : List Int), vl = .slice A1 N c1 ∧ N ≤ TO ∧ Hid (MineI wr (.slice A1 N c1) N l) ∧ Hid (∀ b, (Value.slice A1 N c1).ownBlock = some b → ¬ us b ∧ b ≠ k ∧ b ≠ g ∧ v.ownBlock ≠ some b) ∧ Hid (Lens l) ∧ Hid (rowsR zs cl (codesS cl) TO F q e l = (p5, e5, l5)) ∧ Hid (q ≤ 8 * n ∧ (e = 0 → TO - N < F)) ∧ Hid (FS wr k g us A n c q e v out most) ∧ Hid (Keeps us w6 wr)) (fun vl wr => 2 * (TO - lenOf vl) + eOf g wr)
      case atStart => exact ⟨TO + 1, q, e4, none, 0, 0, [], rfl, by omega, Lib.hid (MineI.nil _), Lib.hid (fun b hb => by cases hb), Lib.hid Lens.nil, T5, Lib.hid ⟨HQ4.out, fun _ => by omega⟩, HF6, HK6⟩
      case round =>
        obtain ⟨F, q, e, A1, c1, N, l, rfl, hNT, HMI, HOW, HLS, HRW, HQ, HF, HK⟩ := hrel
        have k0 := HF.out.c0
        have k2 := HF.out.bs.c2
        have hNl := HMI.out.len
        have HNL := Lib.hid hNl
        clear hNl
        have hTO : (LI : Int) + (DI : Int) = TO := HTO.out
        by_cases he : e = 0
        · subst he
          by_cases hlt : N < TO
          · obtain ⟨J, hJ⟩ : ∃ J, F = J + 1 := ⟨F - 1, by have := HQ.out.2 rfl; omega⟩
            subst hJ
            have hrw := HRW.out
            rw [rowsR, if_pos ⟨rfl, by rw [HNL.out]; exact hlt⟩] at hrw
            dsimp only at hrw
            obtain ⟨s, q1, d1, hs1⟩ : ∃ s qx dx, symS zs cl (codesS cl) q 0 = (s, qx, dx) := ⟨_, _, _, rfl⟩
            have hq1 := symS_p zs cl (codesS cl) q 0 (by rw [HLEN.out]; exact HQ.out.1)
            have hs0 := symS_v zs cl (codesS cl) q 0
            have hs19 : d1 = 0 → s < 19 := fun h0 => by
              subst h0
              have h := hs1
              unfold symS at h
              rw [if_pos rfl] at h
              have := symR_lt zs cl (codesS cl) 15 1 0 q s q1 h
              rw [HCN.out] at this
              exact this
            rw [hs1] at hrw hq1 hs0
            rw [HLEN.out] at hq1
            dsimp only at hrw hq1 hs0
            have hbd := repS_bd zs s l q1 d1 hs0 hs19 (by rw [HLEN.out]; exact hq1.1) HLS.out
            rw [HLEN.out] at hbd
            obtain ⟨⟨rv, rn, rp, re⟩, hrep⟩ : ∃ r, repS zs s l q1 d1 = r := ⟨_, rfl⟩
            rw [hrep] at hrw hbd
            dsimp only at hrw hbd
            obtain ⟨RN, rfl⟩ : ∃ RN : Nat, rn = RN := ⟨rn.toNat, by omega⟩
            obtain ⟨ov, hov⟩ : ∃ ov, overS TO l (rv, ((RN : Int), (rp, re))) = ov := ⟨_, rfl⟩
            obtain ⟨gl, hgl⟩ : ∃ gl, growS TO l (rv, ((RN : Int), (rp, re))) = gl := ⟨_, rfl⟩
            rw [hov, hgl] at hrw
            have HRW2 := Lib.hid hrw
            have HOV : Hid ((if re = 0 ∧ (TO : Int) < (N : Int) + RN then 4 else re) = ov) := Lib.hid (by rw [← hov]; unfold overS; rw [HNL.out])
            have HGL : Hid ((if ov = 0 then l ++ List.replicate RN rv else l) = gl) := Lib.hid (by rw [← hgl]; unfold growS; rw [hov, Int.toNat_natCast])
            have HREP := Lib.hid hrep
            have HS1 := Lib.hid hs1
            have HQ1 := Lib.hid hq1
            have HBD := Lib.hid hbd
            have HS19 := Lib.hid hs19
            have hRN : 1 ≤ RN ∧ RN ≤ 138 := by omega
            clear hrw hov hgl hrep hs1 hq1 hbd hs19
            go_upto_block 4 with (go_at_call 56; refine (HSY.out _ q 0 s q1 d1 HK.out HF.out HQ.out.1 HS1.out).mono ?_; rintro r w8 ⟨rfl, hb8, ho8⟩; have HF8 := Lib.hid (HF.out.read ho8 hb8); have HK8 := Lib.hid (HK.out.trans (ho8.keeps HF.out.tg HF.out.tb)); have HM8 : Hid (MineI w8 (.slice A1 N c1) N l) := Lib.hid (HMI.out.same fun b hb hlt => ho8.block b hlt (HOW.out b hb).2.2.1); have k08 := HF8.out.c0; have k28 := HF8.out.bs.c2; clear hb8 ho8)
            clear k0 k2
            rename_i KS hKS
            suffices hsw : ∀ (x108 x109 x110 x111 x112 x113 x114 x115 x116 x117 x118 x119 x120 x121 x122 x123 x124 x125 x126 x127 x128 x129 x130 x131 x132 x133 x134 x135 x136 x137 x138 x139 x140 x141 x142 x143 x144 x145 x146 x147 x148 x149 x150 x151 x152 x153 x154 x155 x156 x157 x158 x159 x160 x161 x162 x163 x164 x165 x166 x167 x168 x169 x170 x171 x172 x173 x174 x175 x176 x177 x178 x179 x180 x181 x182 x183 x184 x185 x186 x187 x188 x189 x190 x191 x192 x193 x194 x195 x196 x197 x198 x199 x200 x201 x202 x203 x204 x205 x206 x207 x208 x209 x210 x211 x212 x213 x214 x215 x216 x217 x218 x219 x220 x221 x222 x223 x224 x225 x226 x227 x228 : Value) (wx : World), Hid (FS wx k g us A n c rp re v out most) → Hid (Keeps us w6 wx) → Hid (MineI wx (.slice A1 N c1) N l) → KS { tmps := #[.pointer (some ⟨k, 0, none⟩), undef, .slice none 0 0, .slice none 0 0, .int .i64 LI, .int .i64 DI, .int .i64 j, .slice (some ⟨bo, 0, none⟩) 19 19, .slice (some ⟨bo + 1, 0, none⟩) 19 19, .int .i64 j, .slice (some ⟨bd, 0, none⟩) 19 19, .slice A1 N c1, .int .i64 s, .int .i64 rv, .int .i64 RN, u15, undef, undef, u18, u19, u20, u21, u22, u23, u24, u25, u26, u27, u28, u29, u30, u31, u32, u33, u34, u35, u36, u37, u38, u39, u40, u41, u42, u43, u44, u45, u46, u47, u48, u49, u50, u51, u52, u53, u54, u55, u56, u57, u58, u59, u60, u61, u62, u63, u64, u65, u66, u67, u68, u69, u70, u71, u72, u73, u74, u75, u76, u77, u78, u79, u80, u81, u82, u83, u84, u85, u86, u87, u88, u89, u90, u91, u92, u93, u94, u95, u96, u97, u98, u99, u100, u101, u102, u103, u104, u105, .slice (some ⟨bo + 1, 0, none⟩) 19 19, .slice (some ⟨bd, 0, none⟩) 19 19, x108, x109, x110, x111, x112, x113, x114, x115, x116, x117, x118, x119, x120, x121, x122, x123, x124, x125, x126, x127, x128, x129, x130, x131, x132, x133, x134, x135, x136, x137, x138, x139, x140, x141, x142, x143, x144, x145, x146, x147, x148, x149, x150, x151, x152, x153, x154, x155, x156, x157, x158, x159, x160, x161, x162, x163, x164, x165, x166, x167, x168, x169, x170, x171, x172, x173, x174, x175, x176, x177, x178, x179, x180, x181, x182, x183, x184, x185, x186, x187, x188, x189, x190, x191, x192, x193, x194, x195, x196, x197, x198, x199, x200, x201, x202, x203, x204, x205, x206, x207, x208, x209, x210, x211, x212, x213, x214, x215, x216, x217, x218, x219, x220, x221, x222, x223, x224, x225, x226, x227, x228, u229, u230, u231, u232, u233, u234, u235, u236, u237, u238, u239, u240, u241, u242, u243, u244, u245, u246, u247, u248, u249, u250, u251, u252, u253, u254, u255, u256, u257, u258, u259, u260, u261, u262, u263], defers := [] } wx by
              clear hKS
              have hrep := HREP.out
              by_cases hd1 : d1 = 0
              · subst hd1
                have hs18 : s < 19 := HS19.out rfl
                unfold repS at hrep
                rw [if_neg (fun h => h rfl)] at hrep
                by_cases h16 : s = 16
                · subst h16
                  by_cases hN0 : N = 0
                  · subst hN0
                    rw [if_pos ⟨rfl, HNL.out⟩] at hrep
                    obtain ⟨hr1, hr2⟩ := Prod.mk.inj hrep
                    obtain ⟨hr3, hr4⟩ := Prod.mk.inj hr2
                    obtain ⟨hr5, hr6⟩ := Prod.mk.inj hr4
                    obtain rfl : RN = 1 := by omega
                    subst hr1 hr5 hr6
                    clear hr2 hr3 hr4 hrep
                    go_wp2_with (go_at_call 48; refine (fail_first g n c q1 4 A _ HF8.out.bs).mono ?_; rintro r w9 ⟨rfl, hb9, ho9⟩; have HF9 := Lib.hid (HF8.out.read ho9 hb9); have HK9 := Lib.hid (HK8.out.trans (ho9.keeps HF8.out.tg HF8.out.tb)); have HM9 : Hid (MineI w9 (.slice A1 0 c1) 0 l) := Lib.hid (HM8.out.same fun b hb hlt => ho9.block b hlt (HOW.out b hb).2.2.1); clear hb9 ho9)
                    exact hsw _ _ _ _ _ _ _ _ _ _ _ _ _ _ _ _ _ _ _ _ _ _ _ _ _ _ _ _ _ _ _ _ _ _ _ _ _ _ _ _ _ _ _ _ _ _ _ _ _ _ _ _ _ _ _ _ _ _ _ _ _ _ _ _ _ _ _ _ _ _ _ _ _ _ _ _ _ _ _ _ _ _ _ _ _ _ _ _ _ _ _ _ _ _ _ _ _ _ _ _ _ _ _ _ _ _ _ _ _ _ _ _ _ _ _ _ _ _ _ _ _ _ HF9 HK9 HM9
                  · rw [if_neg (fun h => hN0 (HNL.out.symm.trans h.2)), if_pos rfl] at hrep
                    obtain ⟨y, q9, d9, t9⟩ : ∃ y qx dx, takeS zs q1 0 2 = (y, qx, dx) := ⟨_, _, _, rfl⟩
                    have hv9 := takeS_v zs q1 0 2
                    rw [t9] at hrep hv9
                    dsimp only at hrep hv9
                    obtain ⟨hr1, hr2⟩ := Prod.mk.inj hrep
                    obtain ⟨hr3, hr4⟩ := Prod.mk.inj hr2
                    obtain ⟨hr5, hr6⟩ := Prod.mk.inj hr4
                    obtain ⟨YN, rfl⟩ : ∃ YN : Nat, y = YN := ⟨y.toNat, by omega⟩
                    subst hr5 hr6
                    obtain ⟨Al, cl', hsl, hnu, hob⟩ := HM8.out.nums
                    injection hsl with hsl1 hsl2 hsl3
                    subst hsl1 hsl3
                    obtain ⟨b, hAb, hbo⟩ := hob (by omega)
                    subst hAb
                    obtain ⟨b', o', he', _, hc⟩ := hnu.cell (by omega)
                    injection he' with he'
                    injection he' with he1 he2 he3
                    subst he1 he2
                    have ck := hc (N - 1) (by omega)
                    rw [HNL.out] at hr1
                    rw [hr1] at ck
                    obtain ⟨D, hD⟩ : ∃ D, N - 1 = D := ⟨_, rfl⟩
                    rw [hD, Nat.zero_add] at ck
                    have hDN : D < N := by omega
                    have e1 : (N : Int) - 1 = D := by omega
                    have e2 : IntKind.i64.wrap (D : Int) = D := IntWalk.i64_in _ (by omega)
                    have hDI : (D : Int) < N := by omega
                    have hNI : (N : Int) ≤ 1000 := by omega
                    have e3 : (3 : Int) + YN = RN := hr3
                    have e4 : IntKind.i64.wrap (RN : Int) = RN := IntWalk.i64_in _ (by omega)
                    have hbg : b ≠ g := (HOW.out b hbo).2.2.1
                    have hbl : b < w8.heap.size := HM8.out.lt b hbo
                    have HTK := Lib.hid (HT2.out _ q1 0 2 YN q9 d9 (HK8.out.drewN 1) (HF8.out.drewN 1) HQ1.out.1 (by omega) t9)
                    have HCK := Lib.hid ck
                    have HBG := Lib.hid hbg
                    have HBL := Lib.hid hbl
                    clear hrep hr1 hr2 hr3 hr4 hc hnu hob hbo hD t9 hv9 hbg hbl hDb hLb
                    go_upto_region 25 with fail
                    go_region_with (go_at_call 44; refine HTK.out.mono ?_; rintro r w9 ⟨rfl, hb9, ho9⟩; have HF9 := Lib.hid ((HF8.out.drewN 1).read ho9 hb9); have HK9 := Lib.hid ((HK8.out.drewN 1).trans (ho9.keeps HF8.out.tg HF8.out.tb)); have HM9 : Hid (MineI w9 (.slice (some ⟨b, 0, none⟩) N c1) N l) := Lib.hid ((HM8.out.drewN 1).same fun b hb hlt => ho9.block b hlt (HOW.out b hb).2.2.1); have ck9 := (World.cell?_of_block (ho9.block b HBL.out HBG.out)).trans HCK.out; clear hb9 ho9)
                    all_goals
                      go_wp2_with fail
                      go_simp
                      exact hsw _ _ _ _ _ _ _ _ _ _ _ _ _ _ _ _ _ _ _ _ _ _ _ _ _ _ _ _ _ _ _ _ _ _ _ _ _ _ _ _ _ _ _ _ _ _ _ _ _ _ _ _ _ _ _ _ _ _ _ _ _ _ _ _ _ _ _ _ _ _ _ _ _ _ _ _ _ _ _ _ _ _ _ _ _ _ _ _ _ _ _ _ _ _ _ _ _ _ _ _ _ _ _ _ _ _ _ _ _ _ _ _ _ _ _ _ _ _ _ _ _ _ HF9 HK9 HM9
                · rw [if_neg (fun h => h16 h.1), if_neg h16] at hrep
                  have hb16 : (s == 16) = false := beq_eq_false_iff_ne.2 h16
                  by_cases h17 : s = 17
                  · subst h17
                    rw [if_pos rfl] at hrep
                    obtain ⟨y, q9, d9, t9⟩ : ∃ y qx dx, takeS zs q1 0 3 = (y, qx, dx) := ⟨_, _, _, rfl⟩
                    have hv9 := takeS_v zs q1 0 3
                    rw [t9] at hrep hv9
                    dsimp only at hrep hv9
                    obtain ⟨hr1, hr2⟩ := Prod.mk.inj hrep
                    obtain ⟨hr3, hr4⟩ := Prod.mk.inj hr2
                    obtain ⟨hr5, hr6⟩ := Prod.mk.inj hr4
                    obtain ⟨YN, rfl⟩ : ∃ YN : Nat, y = YN := ⟨y.toNat, by omega⟩
                    subst hr1 hr5 hr6
                    have e3 : (3 : Int) + YN = RN := hr3
                    have HT9 := Lib.hid t9
                    clear hrep hr2 hr3 hr4 t9 hv9
                    go_wp2_with (go_at_call 44; refine (HT2.out _ q1 0 3 YN q9 d9 HK8.out HF8.out HQ1.out.1 (by omega) HT9.out).mono ?_; rintro r w9 ⟨rfl, hb9, ho9⟩; have HF9 := Lib.hid (HF8.out.read ho9 hb9); have HK9 := Lib.hid (HK8.out.trans (ho9.keeps HF8.out.tg HF8.out.tb)); have HM9 : Hid (MineI w9 (.slice A1 N c1) N l) := Lib.hid (HM8.out.same fun b hb hlt => ho9.block b hlt (HOW.out b hb).2.2.1); clear hb9 ho9)
                    exact hsw _ _ _ _ _ _ _ _ _ _ _ _ _ _ _ _ _ _ _ _ _ _ _ _ _ _ _ _ _ _ _ _ _ _ _ _ _ _ _ _ _ _ _ _ _ _ _ _ _ _ _ _ _ _ _ _ _ _ _ _ _ _ _ _ _ _ _ _ _ _ _ _ _ _ _ _ _ _ _ _ _ _ _ _ _ _ _ _ _ _ _ _ _ _ _ _ _ _ _ _ _ _ _ _ _ _ _ _ _ _ _ _ _ _ _ _ _ _ _ _ _ _ HF9 HK9 HM9
                  · rw [if_neg h17] at hrep
                    have hb17 : (s == 17) = false := beq_eq_false_iff_ne.2 h17
                    by_cases h18 : s = 18
                    · subst h18
                      rw [if_pos rfl] at hrep
                      obtain ⟨y, q9, d9, t9⟩ : ∃ y qx dx, takeS zs q1 0 7 = (y, qx, dx) := ⟨_, _, _, rfl⟩
                      have hv9 := takeS_v zs q1 0 7
                      rw [t9] at hrep hv9
                      dsimp only at hrep hv9
                      obtain ⟨hr1, hr2⟩ := Prod.mk.inj hrep
                      obtain ⟨hr3, hr4⟩ := Prod.mk.inj hr2
                      obtain ⟨hr5, hr6⟩ := Prod.mk.inj hr4
                      obtain ⟨YN, rfl⟩ : ∃ YN : Nat, y = YN := ⟨y.toNat, by omega⟩
                      subst hr1 hr5 hr6
                      have e3 : (11 : Int) + YN = RN := hr3
                      have HT9 := Lib.hid t9
                      clear hrep hr2 hr3 hr4 t9 hv9
                      go_wp2_with (go_at_call 44; refine (HT2.out _ q1 0 7 YN q9 d9 HK8.out HF8.out HQ1.out.1 (by omega) HT9.out).mono ?_; rintro r w9 ⟨rfl, hb9, ho9⟩; have HF9 := Lib.hid (HF8.out.read ho9 hb9); have HK9 := Lib.hid (HK8.out.trans (ho9.keeps HF8.out.tg HF8.out.tb)); have HM9 : Hid (MineI w9 (.slice A1 N c1) N l) := Lib.hid (HM8.out.same fun b hb hlt => ho9.block b hlt (HOW.out b hb).2.2.1); clear hb9 ho9)
                      exact hsw _ _ _ _ _ _ _ _ _ _ _ _ _ _ _ _ _ _ _ _ _ _ _ _ _ _ _ _ _ _ _ _ _ _ _ _ _ _ _ _ _ _ _ _ _ _ _ _ _ _ _ _ _ _ _ _ _ _ _ _ _ _ _ _ _ _ _ _ _ _ _ _ _ _ _ _ _ _ _ _ _ _ _ _ _ _ _ _ _ _ _ _ _ _ _ _ _ _ _ _ _ _ _ _ _ _ _ _ _ _ _ _ _ _ _ _ _ _ _ _ _ _ HF9 HK9 HM9
                    · rw [if_neg h18] at hrep
                      have hb18 : (s == 18) = false := beq_eq_false_iff_ne.2 h18
                      obtain ⟨hr1, hr2⟩ := Prod.mk.inj hrep
                      obtain ⟨hr3, hr4⟩ := Prod.mk.inj hr2
                      obtain ⟨hr5, hr6⟩ := Prod.mk.inj hr4
                      obtain rfl : RN = 1 := by omega
                      subst hr1 hr5 hr6
                      clear hrep hr2 hr3 hr4 h16 h17 h18
                      go_wp2
                      exact hsw _ _ _ _ _ _ _ _ _ _ _ _ _ _ _ _ _ _ _ _ _ _ _ _ _ _ _ _ _ _ _ _ _ _ _ _ _ _ _ _ _ _ _ _ _ _ _ _ _ _ _ _ _ _ _ _ _ _ _ _ _ _ _ _ _ _ _ _ _ _ _ _ _ _ _ _ _ _ _ _ _ _ _ _ _ _ _ _ _ _ _ _ _ _ _ _ _ _ _ _ _ _ _ _ _ _ _ _ _ _ _ _ _ _ _ _ _ _ _ _ _ _ HF8 HK8 HM8
              · rw [repS, if_pos hd1] at hrep
                obtain ⟨hr1, hr2⟩ := Prod.mk.inj hrep
                obtain ⟨hr3, hr4⟩ := Prod.mk.inj hr2
                obtain ⟨hr5, hr6⟩ := Prod.mk.inj hr4
                obtain rfl : RN = 1 := by omega
                subst hr1 hr5 hr6
                have hz4 : (d1 == 0) = false := beq_eq_false_iff_ne.2 hd1
                have hz5 : (d1 != 0) = true := by simpa using hd1
                clear hr2 hr3 hr4 hrep hd1
                go_wp2
                exact hsw _ _ _ _ _ _ _ _ _ _ _ _ _ _ _ _ _ _ _ _ _ _ _ _ _ _ _ _ _ _ _ _ _ _ _ _ _ _ _ _ _ _ _ _ _ _ _ _ _ _ _ _ _ _ _ _ _ _ _ _ _ _ _ _ _ _ _ _ _ _ _ _ _ _ _ _ _ _ _ _ _ _ _ _ _ _ _ _ _ _ _ _ _ _ _ _ _ _ _ _ _ _ _ _ _ _ _ _ _ _ _ _ _ _ _ _ _ _ _ _ _ _ HF8 HK8 HM8
            intro x108 x109 x110 x111 x112 x113 x114 x115 x116 x117 x118 x119 x120 x121 x122 x123 x124 x125 x126 x127 x128 x129 x130 x131 x132 x133 x134 x135 x136 x137 x138 x139 x140 x141 x142 x143 x144 x145 x146 x147 x148 x149 x150 x151 x152 x153 x154 x155 x156 x157 x158 x159 x160 x161 x162 x163 x164 x165 x166 x167 x168 x169 x170 x171 x172 x173 x174 x175 x176 x177 x178 x179 x180 x181 x182 x183 x184 x185 x186 x187 x188 x189 x190 x191 x192 x193 x194 x195 x196 x197 x198 x199 x200 x201 x202 x203 x204 x205 x206 x207 x208 x209 x210 x211 x212 x213 x214 x215 x216 x217 x218 x219 x220 x221 x222 x223 x224 x225 x226 x227 x228 wx HF9 HK9 HM9
            refine hKS _ _ ?_
            clear hKS KS k08 k28
            have k0 := HF9.out.c0
            have k2 := HF9.out.bs.c2
            go_upto_region 30 with fail
            rename_i KR hKR KC hKC
            suffices hg : ∀ (y108 y109 y110 y111 y112 y113 y114 y115 y116 y117 y118 y119 y120 y121 y122 y123 y124 y125 y126 y127 y128 y129 y130 y131 y132 y133 y134 y135 y136 y137 y138 y139 y140 y141 y142 y143 y144 y145 y146 y147 y148 y149 y150 y151 y152 y153 y154 y155 y156 y157 y158 y159 y160 y161 y162 y163 y164 y165 y166 y167 y168 y169 y170 y171 y172 y173 y174 y175 y176 y177 y178 y179 y180 y181 y182 y183 y184 y185 y186 y187 y188 y189 y190 y191 y192 y193 y194 y195 y196 y197 y198 y199 y200 y201 y202 y203 y204 y205 y206 y207 y208 y209 y210 y211 y212 y213 y214 y215 y216 y217 y218 y219 y220 y221 y222 y223 y224 y225 y226 y227 y228 : Value) (wx : World), Hid (FS wx k g us A n c rp ov v out most) → Hid (Keeps us w6 wx) → Hid (MineI wx (.slice A1 N c1) N l) → KR { tmps := #[.pointer (some ⟨k, 0, none⟩), undef, .slice none 0 0, .slice none 0 0, .int .i64 LI, .int .i64 DI, .int .i64 j, .slice (some ⟨bo, 0, none⟩) 19 19, .slice (some ⟨bo + 1, 0, none⟩) 19 19, .int .i64 j, .slice (some ⟨bd, 0, none⟩) 19 19, .slice A1 N c1, .int .i64 s, .int .i64 rv, .int .i64 RN, u15, undef, undef, u18, u19, u20, u21, u22, u23, u24, u25, u26, u27, u28, u29, u30, u31, u32, u33, u34, u35, u36, u37, u38, u39, u40, u41, u42, u43, u44, u45, u46, u47, u48, u49, u50, u51, u52, u53, u54, u55, u56, u57, u58, u59, u60, u61, u62, u63, u64, u65, u66, u67, u68, u69, u70, u71, u72, u73, u74, u75, u76, u77, u78, u79, u80, u81, u82, u83, u84, u85, u86, u87, u88, u89, u90, u91, u92, u93, u94, u95, u96, u97, u98, u99, u100, u101, u102, u103, u104, u105, .slice (some ⟨bo + 1, 0, none⟩) 19 19, .slice (some ⟨bd, 0, none⟩) 19 19, y108, y109, y110, y111, y112, y113, y114, y115, y116, y117, y118, y119, y120, y121, y122, y123, y124, y125, y126, y127, y128, y129, y130, y131, y132, y133, y134, y135, y136, y137, y138, y139, y140, y141, y142, y143, y144, y145, y146, y147, y148, y149, y150, y151, y152, y153, y154, y155, y156, y157, y158, y159, y160, y161, y162, y163, y164, y165, y166, y167, y168, y169, y170, y171, y172, y173, y174, y175, y176, y177, y178, y179, y180, y181, y182, y183, y184, y185, y186, y187, y188, y189, y190, y191, y192, y193, y194, y195, y196, y197, y198, y199, y200, y201, y202, y203, y204, y205, y206, y207, y208, y209, y210, y211, y212, y213, y214, y215, y216, y217, y218, y219, y220, y221, y222, y223, y224, y225, y226, y227, y228, u229, u230, u231, u232, u233, u234, u235, u236, u237, u238, u239, u240, u241, u242, u243, u244, u245, u246, u247, u248, u249, u250, u251, u252, u253, u254, u255, u256, u257, u258, u259, u260, u261, u262, u263], defers := [] } wx by
              clear hKR
              by_cases hz0 : re = 0
              · subst hz0
                by_cases hfar : (TO : Int) < (N : Int) + RN
                · have hE : Hid (4 = ov) := Lib.hid (by
                    have := HOV.out
                    rw [if_pos ⟨rfl, hfar⟩] at this
                    exact this)
                  go_wp2_with (go_at_call 48; refine (fail_first g n c rp 4 A _ HF9.out.bs).mono ?_; rintro r w7 ⟨rfl, hb7, ho7⟩; have HF7 := Lib.hid (HF9.out.read ho7 hb7); have HK7 := Lib.hid (HK9.out.trans (ho7.keeps HF9.out.tg HF9.out.tb)); have HM7 : Hid (MineI w7 (.slice A1 N c1) N l) := Lib.hid (HM9.out.same fun b hb hlt => ho7.block b hlt (HOW.out b hb).2.2.1); clear hb7 ho7)
                  exact hg _ _ _ _ _ _ _ _ _ _ _ _ _ _ _ _ _ _ _ _ _ _ _ _ _ _ _ _ _ _ _ _ _ _ _ _ _ _ _ _ _ _ _ _ _ _ _ _ _ _ _ _ _ _ _ _ _ _ _ _ _ _ _ _ _ _ _ _ _ _ _ _ _ _ _ _ _ _ _ _ _ _ _ _ _ _ _ _ _ _ _ _ _ _ _ _ _ _ _ _ _ _ _ _ _ _ _ _ _ _ _ _ _ _ _ _ _ _ _ _ _ _ (Lib.hid (by rw [← hE.out]; exact HF7.out)) HK7 HM7
                · have hE : Hid (0 = ov) := Lib.hid (by
                    have := HOV.out
                    rw [if_neg (fun h => hfar h.2)] at this
                    exact this)
                  go_wp2
                  exact hg _ _ _ _ _ _ _ _ _ _ _ _ _ _ _ _ _ _ _ _ _ _ _ _ _ _ _ _ _ _ _ _ _ _ _ _ _ _ _ _ _ _ _ _ _ _ _ _ _ _ _ _ _ _ _ _ _ _ _ _ _ _ _ _ _ _ _ _ _ _ _ _ _ _ _ _ _ _ _ _ _ _ _ _ _ _ _ _ _ _ _ _ _ _ _ _ _ _ _ _ _ _ _ _ _ _ _ _ _ _ _ _ _ _ _ _ _ _ _ _ _ _ (Lib.hid (by rw [← hE.out]; exact HF9.out)) HK9 HM9
              · have hz4 : (re == 0) = false := beq_eq_false_iff_ne.2 hz0
                have hE : Hid (re = ov) := Lib.hid (by
                  have := HOV.out
                  rw [if_neg (fun h => hz0 h.1)] at this
                  exact this)
                clear hz0
                go_wp2
                exact hg _ _ _ _ _ _ _ _ _ _ _ _ _ _ _ _ _ _ _ _ _ _ _ _ _ _ _ _ _ _ _ _ _ _ _ _ _ _ _ _ _ _ _ _ _ _ _ _ _ _ _ _ _ _ _ _ _ _ _ _ _ _ _ _ _ _ _ _ _ _ _ _ _ _ _ _ _ _ _ _ _ _ _ _ _ _ _ _ _ _ _ _ _ _ _ _ _ _ _ _ _ _ _ _ _ _ _ _ _ _ _ _ _ _ _ _ _ _ _ _ _ _ (Lib.hid (by rw [← hE.out]; exact HF9.out)) HK9 HM9
            intro y108 y109 y110 y111 y112 y113 y114 y115 y116 y117 y118 y119 y120 y121 y122 y123 y124 y125 y126 y127 y128 y129 y130 y131 y132 y133 y134 y135 y136 y137 y138 y139 y140 y141 y142 y143 y144 y145 y146 y147 y148 y149 y150 y151 y152 y153 y154 y155 y156 y157 y158 y159 y160 y161 y162 y163 y164 y165 y166 y167 y168 y169 y170 y171 y172 y173 y174 y175 y176 y177 y178 y179 y180 y181 y182 y183 y184 y185 y186 y187 y188 y189 y190 y191 y192 y193 y194 y195 y196 y197 y198 y199 y200 y201 y202 y203 y204 y205 y206 y207 y208 y209 y210 y211 y212 y213 y214 y215 y216 y217 y218 y219 y220 y221 y222 y223 y224 y225 y226 y227 y228 wy HF10 HK10 HM10
            refine hKR _ _ ?_
            clear hKR hKC KC KR k0 k2
            have k0 := HF10.out.c0
            have k2 := HF10.out.bs.c2
            by_cases hov : ov = 0
            · subst hov
              have hNR : N + RN ≤ TO := by
                have h1 := HOV.out
                by_cases hc : re = 0 ∧ (TO : Int) < (N : Int) + RN
                · rw [if_pos hc] at h1; omega
                · rw [if_neg hc] at h1
                  by_cases h2 : (TO : Int) < (N : Int) + RN
                  · exact absurd ⟨h1, h2⟩ hc
                  · omega
              have hre : re = 0 := by
                have h1 := HOV.out
                by_cases hc : re = 0 ∧ (TO : Int) < (N : Int) + RN
                · exact hc.1
                · rw [if_neg hc] at h1; exact h1
              have HGL2 : Hid (l ++ List.replicate RN rv = gl) := Lib.hid (by have := HGL.out; rw [if_pos rfl] at this; exact this)
              have HLG : Hid (Lens gl) := Lib.hid (by rw [← HGL2.out]; exact HLS.out.grow RN rv (HBD.out.2.2.2.2 hre))
              clear hre
              go_wp2
              go_loopw [11, 15] (fun vl i wr => ∃ (jj : Nat) (A2 : Option Addr) (c2 : Nat), jj ≤ RN ∧ i = .int .i64 jj ∧ vl = .slice A2 (N + jj) c2 ∧ Hid (MineI wr (.slice A2 (N + jj) c2) (N + jj) (l ++ List.replicate jj rv)) ∧ Hid (∀ b, (Value.slice A2 (N + jj) c2).ownBlock = some b → ¬ us b ∧ b ≠ k ∧ b ≠ g ∧ v.ownBlock ≠ some b) ∧ Hid (FS wr k g us A n c rp 0 v out most) ∧ Hid (Keeps us w6 wr)) (fun _ i _ => RN - (intOf i).toNat)
              case atStart => exact ⟨0, A1, c1, Nat.zero_le _, rfl, rfl, Lib.hid (by simpa using HM10.out), HOW, HF10, HK10⟩
              case round =>
                obtain ⟨jj, A2, c2, hjj, rfl, rfl, HMJ, HOJ, HFJ, HKJ⟩ := hrel
                have k0 := HFJ.out.c0
                have k2 := HFJ.out.bs.c2
                by_cases hjl : jj < RN
                · have HAP := Lib.hid (HMJ.out.append1 rv 62 (by omega))
                  have hrj : l ++ List.replicate (jj + 1) rv = (l ++ List.replicate jj rv) ++ [rv] := by rw [List.append_assoc, List.replicate_succ']
                  have HRJ := Lib.hid hrj
                  clear hrj
                  go_wp2_with (at_builtin; obtain ⟨v6, w7, hrun, hmi6, hbl6, hos6, htp6, hou6, hsz6, hwn6⟩ := HAP.out; obtain ⟨A6, c6, rfl, _, _⟩ := hmi6.nums; refine Lib.wpList_append_run_sl _ rfl (.tmp 225) (.tmp 227) 62 rfl _ _ rfl rfl hrun ?_; clear hrun; have HB6' := Lib.hid hbl6; have HM6' := Lib.hid hmi6; have HX6 := Lib.hid (And.intro hos6 (And.intro htp6 (And.intro hou6 (And.intro hsz6 hwn6)))); clear hbl6 hmi6 hos6 htp6 hou6 hsz6 hwn6)
                  obtain ⟨hx1, hx2, hx3, hx4, hx5⟩ := HX6.out
                  have HF7 : Hid (FS w7 k g us A n c rp 0 v out most) := Lib.hid (HFJ.out.kept hx4 (fun i hlt hi => HB6'.out i hlt (fun e => by
                    have := HOJ.out i e
                    rcases hi with rfl | rfl | hi
                    · exact this.2.1 rfl
                    · exact this.2.2.1 rfl
                    · exact this.2.2.2 hi)))
                  have HK7 : Hid (Keeps us w6 w7) := Lib.hid (HKJ.out.trans ⟨hx1, hx2, hx3, hx4, fun i hi => HB6'.out i (HFJ.out.tb i hi) (fun e => (HOJ.out i e).1 hi)⟩)
                  have HO7 : Hid (∀ b, (Value.slice A6 (N + jj + 1) c6).ownBlock = some b → ¬ us b ∧ b ≠ k ∧ b ≠ g ∧ v.ownBlock ≠ some b) := Lib.hid (fun b hb => by
                    rcases hx5 b hb with h | h
                    · exact HOJ.out b h
                    · refine ⟨fun hu => ?_, ?_, ?_, fun e => ?_⟩
                      · have := HFJ.out.tb b hu; omega
                      · have := HFJ.out.lt; omega
                      · have := HFJ.out.bs.lt; omega
                      · have := HFJ.out.own_lt b e; omega)
                  clear hx1 hx2 hx3 hx4 hx5 k0 k2
                  go_roundw
                  case rel => exact ⟨jj + 1, A6, c6, by omega, by go_num, rfl, Lib.hid (by rw [HRJ.out]; exact HM6'.out), HO7, HF7, HK7⟩
                  case measure => simp [intOf]; omega
                · obtain rfl : jj = RN := by omega
                  go_wp2
                  go_roundw
                  case rel => exact ⟨J, rp, 0, A2, c2, N + jj, gl, rfl, hNR, Lib.hid (by rw [← HGL2.out]; exact HMJ.out), HOJ, HLG, HRW2, Lib.hid ⟨HBD.out.1, fun _ => by have := HQ.out.2 (by simp); omega⟩, HFJ, HKJ⟩
                  case measure => rw [HF.out.eOf, HFJ.out.eOf]; simp [lenOf]; omega
            · have hz4 : (ov == 0) = false := beq_eq_false_iff_ne.2 hov
              have HGL2 : Hid (l = gl) := Lib.hid (by have := HGL.out; rw [if_neg hov] at this; exact this)
              have HNV := Lib.hid hov
              clear hov
              go_wp2
              go_loopw [11, 15] (fun vl i wr => i = .int .i64 0 ∧ vl = .slice A1 N c1 ∧ Hid (MineI wr (.slice A1 N c1) N l) ∧ Hid (FS wr k g us A n c rp ov v out most) ∧ Hid (Keeps us w6 wr)) (fun _ _ _ => 0)
              case atStart => exact ⟨rfl, rfl, HM10, HF10, HK10⟩
              case round =>
                obtain ⟨rfl, rfl, HMJ, HFJ, HKJ⟩ := hrel
                have k0 := HFJ.out.c0
                have k2 := HFJ.out.bs.c2
                have hRN0 : (0 : Int) < RN := by omega
                go_wp2
                go_roundw
                case rel => exact ⟨J, rp, ov, A1, c1, N, gl, rfl, hNT, Lib.hid (by rw [← HGL2.out]; exact HMJ.out), HOW, Lib.hid (by rw [← HGL2.out]; exact HLS.out), HRW2, Lib.hid ⟨HBD.out.1, fun h => absurd h HNV.out⟩, HFJ, HKJ⟩
                case measure => rw [HF.out.eOf, HFJ.out.eOf, if_neg HNV.out]; simp [lenOf]
          · obtain rfl : N = TO := by omega
            have hst := HRW.out
            rw [rowsR_stop zs cl (codesS cl) N F q 0 l (fun h => by rw [HNL.out] at h; omega)] at hst
            obtain ⟨hst1, hst2⟩ := Prod.mk.inj hst
            obtain ⟨hst3, hst4⟩ := Prod.mk.inj hst2
            subst hst1 hst3 hst4
            have hsE := HS.out
            rw [if_neg (fun h => h rfl)] at hsE
            obtain ⟨h5, hs5⟩ := Prod.mk.inj hsE
            obtain ⟨h6, hs6⟩ := Prod.mk.inj hs5
            obtain ⟨h7, h8⟩ := Prod.mk.inj hs6
            obtain ⟨la, hla⟩ : ∃ la, l.take LI = la := ⟨_, rfl⟩
            obtain ⟨lb, hlb⟩ : ∃ lb, l.drop LI = lb := ⟨_, rfl⟩
            rw [hla, hlb] at h6
            rw [hla] at h7
            rw [hlb] at h8
            have hNI : (LI : Int) + DI = N := hTO
            have hND : N - LI = DI := by omega
            obtain ⟨Al, cl', hsl, hnu, hob⟩ := HMI.out.nums
            injection hsl with hsl1 hsl2 hsl3
            subst hsl1 hsl3
            obtain ⟨b, hAb, hbo⟩ := hob (by omega)
            subst hAb
            obtain ⟨b', o', he', _, hc⟩ := hnu.cell (by omega)
            injection he' with he'
            injection he' with he1 he2 he3
            subst he1 he2
            have hcap := hnu.cap
            have hnum : ∀ W, W.heap[b]? = wr.heap[b]? → Nums W W.heap.size (some ⟨b, 0, none⟩) LI c1 la ∧ Nums W W.heap.size (some ⟨b, LI, none⟩) DI (c1 - LI) lb := fun W hW => by
              have hlt : b < W.heap.size := by
                rcases Nat.lt_or_ge b W.heap.size with h | h
                · exact h
                · rw [Array.getElem?_eq_none h] at hW
                  have := HMI.out.lt b hbo
                  rw [Array.getElem?_eq_getElem this] at hW
                  cases hW
              refine ⟨⟨by rw [← hla, List.length_take, HNL.out]; omega, by omega, fun _ => ⟨b, 0, rfl, hlt, fun i hi => ?_⟩⟩, ⟨by rw [← hlb, List.length_drop, HNL.out]; omega, by omega, fun _ => ⟨b, LI, rfl, hlt, fun i hi => ?_⟩⟩⟩
              · rw [World.cell?_of_block hW, hc i (by omega), ← hla]
                simp [List.getD, hi]
              · have := hc (LI + i) (by omega)
                rw [Nat.zero_add] at this
                rw [World.cell?_of_block hW, this, ← hlb]
                simp [List.getD]
            have HNUM := Lib.hid hnum
            have HBO := Lib.hid hbo
            have HBW := Lib.hid (HMI.out.lt b hbo)
            have hLA : Lens la := by rw [← hla]; exact HLS.out.take LI
            have hLB : Lens lb := by rw [← hlb]; exact HLS.out.drop LI
            have HM1 := Lib.hid (fun q => mayC (some ⟨b, 0, none⟩) LI c1 _ la (wr.drewN q) (hnum (wr.drewN q) rfl).1 (by omega) (fun i => (hLA i).1) (fun i => (hLA i).2))
            have HM2 := Lib.hid (fun q => mayC (some ⟨b, LI, none⟩) DI (c1 - LI) _ lb (wr.drewN q) (hnum (wr.drewN q) rfl).2 (by omega) (fun i => (hLB i).1) (fun i => (hLB i).2))
            have hc256 : la.getD 256 0 = l.getD 256 0 := by
              rw [← hla]
              simp [List.getD, show 256 < LI by omega]
            have ck := hc 256 (by omega)
            rw [← hc256, Nat.zero_add] at ck
            obtain ⟨z, hz⟩ : ∃ z, la.getD 256 0 = z := ⟨_, rfl⟩
            rw [hz] at ck h6
            have HH6 := Lib.hid h6
            have HPE : Hid (q = p') := Lib.hid h5
            have HL1 : Hid (la = l1) := Lib.hid h7
            have HL2 : Hid (lb = l2) := Lib.hid h8
            have hcl1 : ¬ (c1 = LI) := by omega
            have hcl2 : ¬ (c1 - LI = 0) := by omega
            have hLN : LI ≤ N := by omega
            have h256 : (256 : Int) < LI := by omega
            have h256n : 256 < LI := by omega
            have hLc : LI ≤ c1 := by omega
            clear hst hst2 hsE hs5 hs6 h5 h6 h7 h8 hla hlb hc hnu hob hbo hnum hLA hLB hc256 hz
            go_upto_region 38 with fail
            go_quiet (fail)
            go_upto_region 39 with fail
            rename_i KR hKR KC hKC
            suffices hg : ∀ (y108 y109 y110 y111 y112 y113 y114 y115 y116 y117 y118 y119 y120 y121 y122 y123 y124 y125 y126 y127 y128 y129 y130 y131 y132 y133 y134 y135 y136 y137 y138 y139 y140 y141 y142 y143 y144 y145 y146 y147 y148 y149 y150 y151 y152 y153 y154 y155 y156 y157 y158 y159 y160 y161 y162 y163 y164 y165 y166 y167 y168 y169 y170 y171 y172 y173 y174 y175 y176 y177 y178 y179 y180 y181 y182 y183 y184 y185 y186 y187 y188 y189 y190 y191 y192 y193 y194 y195 y196 y197 y198 y199 y200 y201 y202 y203 y204 y205 y206 y207 y208 y209 y210 y211 y212 y213 y214 y215 y216 y217 y218 y219 y220 y221 y222 y223 y224 y225 y226 y227 y228 y229 y230 y231 y232 y233 y234 y235 y236 y237 y238 y239 y240 y241 y242 y243 y244 y245 y246 y247 y248 y249 y250 y251 y252 y253 y254 y255 y256 y257 y258 y259 y260 y261 y262 y263 : Value) (wx : World), Hid (FS wx k g us A n c q e' v out most) → Hid (Keeps us w6 wx) → Hid (wx.heap[b]? = wr.heap[b]?) → KR { tmps := #[.pointer (some ⟨k, 0, none⟩), undef, .slice none 0 0, .slice none 0 0, .int .i64 LI, .int .i64 DI, .int .i64 j, .slice (some ⟨bo, 0, none⟩) 19 19, .slice (some ⟨bo + 1, 0, none⟩) 19 19, .int .i64 j, .slice (some ⟨bd, 0, none⟩) 19 19, .slice (some ⟨b, 0, none⟩) N c1, u12, u13, u14, u15, .slice (some ⟨b, 0, none⟩) LI c1, .slice (some ⟨b, LI, none⟩) DI (c1 - LI), u18, u19, u20, u21, u22, u23, u24, u25, u26, u27, u28, u29, u30, u31, u32, u33, u34, u35, u36, u37, u38, u39, u40, u41, u42, u43, u44, u45, u46, u47, u48, u49, u50, u51, u52, u53, u54, u55, u56, u57, u58, u59, u60, u61, u62, u63, u64, u65, u66, u67, u68, u69, u70, u71, u72, u73, u74, u75, u76, u77, u78, u79, u80, u81, u82, u83, u84, u85, u86, u87, u88, u89, u90, u91, u92, u93, u94, u95, u96, u97, u98, u99, u100, u101, u102, u103, u104, u105, .slice (some ⟨bo + 1, 0, none⟩) 19 19, .slice (some ⟨bd, 0, none⟩) 19 19, y108, y109, y110, y111, y112, y113, y114, y115, y116, y117, y118, y119, y120, y121, y122, y123, y124, y125, y126, y127, y128, y129, y130, y131, y132, y133, y134, y135, y136, y137, y138, y139, y140, y141, y142, y143, y144, y145, y146, y147, y148, y149, y150, y151, y152, y153, y154, y155, y156, y157, y158, y159, y160, y161, y162, y163, y164, y165, y166, y167, y168, y169, y170, y171, y172, y173, y174, y175, y176, y177, y178, y179, y180, y181, y182, y183, y184, y185, y186, y187, y188, y189, y190, y191, y192, y193, y194, y195, y196, y197, y198, y199, y200, y201, y202, y203, y204, y205, y206, y207, y208, y209, y210, y211, y212, y213, y214, y215, y216, y217, y218, y219, y220, y221, y222, y223, y224, y225, y226, y227, y228, y229, y230, y231, y232, y233, y234, y235, y236, y237, y238, y239, y240, y241, y242, y243, y244, y245, y246, y247, y248, y249, y250, y251, y252, y253, y254, y255, y256, y257, y258, y259, y260, y261, y262, y263], defers := [] } wx by
              clear hKR
              rcases hT1 : mayS la with _ | _
              · rw [hT1] at HM1
                have hE : Hid (4 = e') := Lib.hid (by
                  have := HH6.out
                  rw [if_pos (.inl hT1)] at this
                  exact this)
                go_wp2_with (first
                  | (go_at_call 59; (with_reducible refine (HM1.out nq).mono ?_); rintro r w7 ⟨rfl, rfl⟩; (try dsimp only))
                  | (go_at_call 48; refine (fail_first g n c q 4 A _ (HF.out.drewN nq).bs).mono ?_; rintro r w7 ⟨rfl, hb7, ho7⟩; have HF7 := Lib.hid ((HF.out.drewN nq).read ho7 hb7); have HK7 := Lib.hid ((HK.out.drewN nq).trans (ho7.keeps HF.out.tg HF.out.tb)); have HB7 : Hid (w7.heap[b]? = wr.heap[b]?) := Lib.hid (ho7.block b HBW.out (HOW.out b HBO.out).2.2.1); clear hb7 ho7))
                exact hg _ _ _ _ _ _ _ _ _ _ _ _ _ _ _ _ _ _ _ _ _ _ _ _ _ _ _ _ _ _ _ _ _ _ _ _ _ _ _ _ _ _ _ _ _ _ _ _ _ _ _ _ _ _ _ _ _ _ _ _ _ _ _ _ _ _ _ _ _ _ _ _ _ _ _ _ _ _ _ _ _ _ _ _ _ _ _ _ _ _ _ _ _ _ _ _ _ _ _ _ _ _ _ _ _ _ _ _ _ _ _ _ _ _ _ _ _ _ _ _ _ _ _ _ _ _ _ _ _ _ _ _ _ _ _ _ _ _ _ _ _ _ _ _ _ _ _ _ _ _ _ _ _ _ _ _ _ (Lib.hid (by rw [← hE.out]; exact HF7.out)) HK7 HB7
              · rw [hT1] at HM1
                rcases hT2 : mayS lb with _ | _
                · rw [hT2] at HM2
                  have hE : Hid (4 = e') := Lib.hid (by
                    have := HH6.out
                    rw [if_pos (.inr (.inl hT2))] at this
                    exact this)
                  go_wp2_with (first
                    | (go_at_call 59; (with_reducible refine (HM1.out nq).mono ?_); rintro r w7 ⟨rfl, rfl⟩; (try dsimp only))
                    | (go_at_call 59; (with_reducible refine (HM2.out nq).mono ?_); rintro r w7 ⟨rfl, rfl⟩; (try dsimp only))
                    | (go_at_call 48; refine (fail_first g n c q 4 A _ (HF.out.drewN nq).bs).mono ?_; rintro r w7 ⟨rfl, hb7, ho7⟩; have HF7 := Lib.hid ((HF.out.drewN nq).read ho7 hb7); have HK7 := Lib.hid ((HK.out.drewN nq).trans (ho7.keeps HF.out.tg HF.out.tb)); have HB7 : Hid (w7.heap[b]? = wr.heap[b]?) := Lib.hid (ho7.block b HBW.out (HOW.out b HBO.out).2.2.1); clear hb7 ho7))
                  exact hg _ _ _ _ _ _ _ _ _ _ _ _ _ _ _ _ _ _ _ _ _ _ _ _ _ _ _ _ _ _ _ _ _ _ _ _ _ _ _ _ _ _ _ _ _ _ _ _ _ _ _ _ _ _ _ _ _ _ _ _ _ _ _ _ _ _ _ _ _ _ _ _ _ _ _ _ _ _ _ _ _ _ _ _ _ _ _ _ _ _ _ _ _ _ _ _ _ _ _ _ _ _ _ _ _ _ _ _ _ _ _ _ _ _ _ _ _ _ _ _ _ _ _ _ _ _ _ _ _ _ _ _ _ _ _ _ _ _ _ _ _ _ _ _ _ _ _ _ _ _ _ _ _ _ _ _ _ (Lib.hid (by rw [← hE.out]; exact HF7.out)) HK7 HB7
                · rw [hT2] at HM2
                  by_cases hz0 : z = 0
                  · have hzb : (z == 0) = true := beq_iff_eq.2 hz0
                    have HZ0 := Lib.hid hz0
                    clear hz0
                    have hE : Hid (4 = e') := Lib.hid (by
                      have := HH6.out
                      rw [if_pos (.inr (.inr HZ0.out))] at this
                      exact this)
                    go_wp2_with (first
                      | (go_at_call 59; (with_reducible refine (HM1.out nq).mono ?_); rintro r w7 ⟨rfl, rfl⟩; (try dsimp only))
                      | (go_at_call 59; (with_reducible refine (HM2.out nq).mono ?_); rintro r w7 ⟨rfl, rfl⟩; (try dsimp only))
                      | (go_at_call 48; refine (fail_first g n c q 4 A _ (HF.out.drewN nq).bs).mono ?_; rintro r w7 ⟨rfl, hb7, ho7⟩; have HF7 := Lib.hid ((HF.out.drewN nq).read ho7 hb7); have HK7 := Lib.hid ((HK.out.drewN nq).trans (ho7.keeps HF.out.tg HF.out.tb)); have HB7 : Hid (w7.heap[b]? = wr.heap[b]?) := Lib.hid (ho7.block b HBW.out (HOW.out b HBO.out).2.2.1); clear hb7 ho7))
                    exact hg _ _ _ _ _ _ _ _ _ _ _ _ _ _ _ _ _ _ _ _ _ _ _ _ _ _ _ _ _ _ _ _ _ _ _ _ _ _ _ _ _ _ _ _ _ _ _ _ _ _ _ _ _ _ _ _ _ _ _ _ _ _ _ _ _ _ _ _ _ _ _ _ _ _ _ _ _ _ _ _ _ _ _ _ _ _ _ _ _ _ _ _ _ _ _ _ _ _ _ _ _ _ _ _ _ _ _ _ _ _ _ _ _ _ _ _ _ _ _ _ _ _ _ _ _ _ _ _ _ _ _ _ _ _ _ _ _ _ _ _ _ _ _ _ _ _ _ _ _ _ _ _ _ _ _ _ _ (Lib.hid (by rw [← hE.out]; exact HF7.out)) HK7 HB7
                  · have hzb : (z == 0) = false := beq_eq_false_iff_ne.2 hz0
                    have hE : Hid (0 = e') := Lib.hid (by
                      have := HH6.out
                      rw [if_neg (fun h => by
                        rcases h with h | h | h
                        · rw [hT1] at h; cases h
                        · rw [hT2] at h; cases h
                        · exact hz0 h)] at this
                      exact this)
                    clear hz0
                    go_wp2_with (first
                      | (go_at_call 59; (with_reducible refine (HM1.out nq).mono ?_); rintro r w7 ⟨rfl, rfl⟩; (try dsimp only))
                      | (go_at_call 59; (with_reducible refine (HM2.out nq).mono ?_); rintro r w7 ⟨rfl, rfl⟩; (try dsimp only)))
                    exact hg _ _ _ _ _ _ _ _ _ _ _ _ _ _ _ _ _ _ _ _ _ _ _ _ _ _ _ _ _ _ _ _ _ _ _ _ _ _ _ _ _ _ _ _ _ _ _ _ _ _ _ _ _ _ _ _ _ _ _ _ _ _ _ _ _ _ _ _ _ _ _ _ _ _ _ _ _ _ _ _ _ _ _ _ _ _ _ _ _ _ _ _ _ _ _ _ _ _ _ _ _ _ _ _ _ _ _ _ _ _ _ _ _ _ _ _ _ _ _ _ _ _ _ _ _ _ _ _ _ _ _ _ _ _ _ _ _ _ _ _ _ _ _ _ _ _ _ _ _ _ _ _ _ _ _ _ _ (Lib.hid (by rw [← hE.out]; exact HF.out.drewN nq)) (Lib.hid (HK.out.drewN nq)) (Lib.hid rfl)
            intro y108 y109 y110 y111 y112 y113 y114 y115 y116 y117 y118 y119 y120 y121 y122 y123 y124 y125 y126 y127 y128 y129 y130 y131 y132 y133 y134 y135 y136 y137 y138 y139 y140 y141 y142 y143 y144 y145 y146 y147 y148 y149 y150 y151 y152 y153 y154 y155 y156 y157 y158 y159 y160 y161 y162 y163 y164 y165 y166 y167 y168 y169 y170 y171 y172 y173 y174 y175 y176 y177 y178 y179 y180 y181 y182 y183 y184 y185 y186 y187 y188 y189 y190 y191 y192 y193 y194 y195 y196 y197 y198 y199 y200 y201 y202 y203 y204 y205 y206 y207 y208 y209 y210 y211 y212 y213 y214 y215 y216 y217 y218 y219 y220 y221 y222 y223 y224 y225 y226 y227 y228 y229 y230 y231 y232 y233 y234 y235 y236 y237 y238 y239 y240 y241 y242 y243 y244 y245 y246 y247 y248 y249 y250 y251 y252 y253 y254 y255 y256 y257 y258 y259 y260 y261 y262 y263 wx HFX HKX HBX
            refine hKR _ _ ?_
            clear hKR hKC KC KR
            go_wp2
            go_ret2
            refine ⟨some ⟨b, 0, none⟩, LI, c1, some ⟨b, LI, none⟩, DI, c1 - LI, fun i => us i ∨ i = b, rfl, fun i hi => .inl (HTU.out i hi), ?_, HKT.out _ HKX.out, fun _ => ⟨by omega, by omega, fun W hW => ?_⟩⟩
            · rw [← HPE.out]
              refine HFX.out.with _ (fun i hi => ?_)
              rcases hi with hi | rfl
              · exact ⟨HFX.out.tb i hi, fun e => HFX.out.tk (e ▸ hi), fun e => HFX.out.tg (e ▸ hi), fun e => (HFX.out.own i e).1 hi⟩
              · have h := HOW.out i HBO.out
                refine ⟨?_, h.2.1, h.2.2.1, h.2.2.2⟩
                have hx := HBX.out
                rcases Nat.lt_or_ge i wx.heap.size with h1 | h1
                · exact h1
                · rw [Array.getElem?_eq_none h1, Array.getElem?_eq_getElem HBW.out] at hx
                  cases hx
            · have h := HNUM.out W ((hW.block b (.inr rfl)).trans HBX.out)
              rw [HL1.out, HL2.out] at h
              exact h
        · have hst := HRW.out
          rw [rowsR_stop zs cl (codesS cl) TO F q e l (fun h => he h.1)] at hst
          obtain ⟨hst1, hst2⟩ := Prod.mk.inj hst
          obtain ⟨hst3, hst4⟩ := Prod.mk.inj hst2
          subst hst1 hst3 hst4
          have hsE := HS.out
          rw [if_pos he] at hsE
          obtain ⟨h5, hs5⟩ := Prod.mk.inj hsE
          obtain ⟨h6, _⟩ := Prod.mk.inj hs5
          subst h5 h6
          have hz4 : (e == 0) = false := beq_eq_false_iff_ne.2 he
          have hz5 : (e != 0) = true := by simpa using he
          have HNE := Lib.hid he
          clear hst hst2 hsE hs5 he
          by_cases hlt : N < TO
          · go_wp2
            go_ret2
            exact ⟨none, 0, 0, none, 0, 0, ts, rfl, fun _ h => h, HF.out.sub HTU.out, HKT.out _ HK.out, fun h => absurd h HNE.out⟩
          · obtain rfl : N = TO := by omega
            go_wp2
            go_ret2
            exact ⟨none, 0, 0, none, 0, 0, ts, rfl, fun _ h => h, HF.out.sub HTU.out, HKT.out _ HK.out, fun h => absurd h HNE.out⟩
end Go.Proofs.Ytginbilakdenmaa
