/- One way through a round of the reference's loop: a blank. No condition but the length that every string keeps. -/
import Derived.Test.YtbjbmehkcfpahaaRefLaws
namespace Go.Proofs.Ytbjbmehkcfpahaa
open Go.RowKit Lx
attribute [local go_sem] bt_size bt_get bt_list bt_toList bt_drop bt_take

set_option maxHeartbeats 4000000 in
set_option maxRecDepth 1000000 in
theorem cs_sp1 (l : List UInt8) (w : World) (h : l.length ≤ 16384) (J : Nat → Act → World → Prop) (K K1 : Act → World → Prop) (gk : Nat) (wr : World) (c1 c14 c15 c16 c17 c18 c19 c20 c263 c264 c265 c266 c267 c268 c269 c270 c271 c272 c273 c274 c275 u2 u5 u6 u7 u8 u9 u10 u11 u12 u13 u21 u22 u23 u24 u25 u26 u27 u28 u29 u30 u31 u32 u33 u34 u35 u36 u37 u38 u39 u40 u41 u42 u43 u44 u45 u46 u47 u48 u49 u50 u51 u52 u53 u54 u55 u56 u57 u58 u59 u60 u61 u62 u63 u64 u65 u66 u67 u68 u69 u70 u71 u72 u73 u74 u75 u76 u77 u78 u79 u80 u81 u82 u83 u84 u85 u86 u87 u88 u89 u90 u91 u92 u93 u94 u95 u96 u97 u98 u99 u100 u101 u102 u103 u104 u105 u106 u107 u108 u109 u110 u111 u112 u113 u114 u115 u116 u117 u118 u119 u120 u121 u122 u123 u124 u125 u126 u127 u128 u129 u130 u131 u132 u133 u134 u135 u136 u137 u138 u139 u140 u141 u142 u143 u144 u145 u146 u147 u148 u149 u150 u151 u152 u153 u154 u155 u156 u157 u158 u159 u160 u161 u162 u163 u164 u165 u166 u167 u168 u169 u170 u171 u172 u173 u174 u175 u176 u177 u178 u179 u180 u181 u182 u183 u184 u185 u186 u187 u188 u189 u190 u191 u192 u193 u194 u195 u196 u197 u198 u199 u200 u201 u202 u203 u204 u205 u206 u207 u208 u209 u210 u211 u212 u213 u214 u215 u216 u217 u218 u219 u220 u221 u222 u223 u224 u225 u226 u227 u228 u229 u230 u231 u232 u233 u234 u235 u236 u237 u238 u239 u240 u241 u242 u243 u244 u245 u246 u247 u248 u249 u250 u251 u252 u253 u254 u255 u256 u257 u258 u259 u260 u261 u262 : Value) (o : Nat) (p : Nat × Nat) (ts : List Tk)
    (hrel : RefAt w l gk u5 wr o p ts) (hlt : o < l.length) (hsp : spaceB l[o] = true) (h1 : ((l[o].toNat : Int) == 32) = true)
    (hJ : ∀ k a' w', RI w l c1 c14 c15 c16 c17 c18 c19 c20 c263 c264 c265 c266 c267 c268 c269 c270 c271 c272 c273 c274 c275 k a' w' → J k a' w') (hK : ∀ a' w', Handed J gk a' w' → K a' w') :
    Code.wp Try.prog refBody (Exit.then K (Exit.inBlock 0 (Exit.then K1 (bodyPost Try.prog Try.f9 (fun e w' => ReadPost w l e w'))))) ⟨#[.string (bt l), c1, u2, .pointer (some ⟨w.heap.size, 0, none⟩), .pointer (some ⟨w.heap.size + 1, 0, none⟩), u5, u6, u7, u8, u9, u10, u11, u12, u13, c14, c15, c16, c17, c18, c19, c20, u21, u22, u23, u24, u25, u26, u27, u28, u29, u30, u31, u32, u33, u34, u35, u36, u37, u38, u39, u40, u41, u42, u43, u44, u45, u46, u47, u48, u49, u50, u51, u52, u53, u54, u55, u56, u57, u58, u59, u60, u61, u62, u63, u64, u65, u66, u67, u68, u69, u70, u71, u72, u73, u74, u75, u76, u77, u78, u79, u80, u81, u82, u83, u84, u85, u86, u87, u88, u89, u90, u91, u92, u93, u94, u95, u96, u97, u98, u99, u100, u101, u102, u103, u104, u105, u106, u107, u108, u109, u110, u111, u112, u113, u114, u115, u116, u117, u118, u119, u120, u121, u122, u123, u124, u125, u126, u127, u128, u129, u130, u131, u132, u133, u134, u135, u136, u137, u138, u139, u140, u141, u142, u143, u144, u145, u146, u147, u148, u149, u150, u151, u152, u153, u154, u155, u156, u157, u158, u159, u160, u161, u162, u163, u164, u165, u166, u167, u168, u169, u170, u171, u172, u173, u174, u175, u176, u177, u178, u179, u180, u181, u182, u183, u184, u185, u186, u187, u188, u189, u190, u191, u192, u193, u194, u195, u196, u197, u198, u199, u200, u201, u202, u203, u204, u205, u206, u207, u208, u209, u210, u211, u212, u213, u214, u215, u216, u217, u218, u219, u220, u221, u222, u223, u224, u225, u226, u227, u228, u229, u230, u231, u232, u233, u234, u235, u236, u237, u238, u239, u240, u241, u242, u243, u244, u245, u246, u247, u248, u249, u250, u251, u252, u253, u254, u255, u256, u257, u258, u259, u260, u261, u262, c263, c264, c265, c266, c267, c268, c269, c270, c271, c272, c273, c274, c275], []⟩ wr := by
  obtain ⟨i0, hi, hz0, hz1, hz2⟩ := info_parts Try.infoTok
  obtain ⟨hs, hp, ho, hown, hbe, hcnt, hall, hmm⟩ := hrel
  obtain ⟨c0', c1', c2', c3'⟩ := rd_cells hs
  have hgz := rd_lt hs
  have hbd := adv_bd (l.take o) (1, 1) (by simp)
  rw [← hp] at hbd
  have htl : (l.take o).length ≤ o := List.length_take_le _ _
  simp only at hbd
  obtain ⟨bd1, bd2⟩ := hbd
  have bd3 : 1 ≤ p.2 := by rw [hp, advL_eq]; split <;> simp
  have H := Lib.hid hall
  have HS := Lib.hid hs
  have HP := Lib.hid hp
  have HO := Lib.hid hown
  have HE := Lib.hid hbe
  have HMM := Lib.hid hmm
  clear hall hs hp hown hbe hmm
  have hd := List.drop_eq_getElem_cons hlt
  have HD := Lib.hid hd
  clear hd
  have hb8 : (l[o].toNat : Int) ≤ 255 := by have := l[o].toNat_lt; omega
  have hx : lx (l.drop o) p = lx ((l.drop o).drop 1) (advL p ((l.drop o).take 1)) := by
    rw [HD.out]
    exact lx_space [l[o]] _ p (by simp [hsp])
  have HX := Lib.hid hx
  clear hx hsp
  conv => arg 2; whnf
  go_wp2
  go_region
  go_wp2_with fail
  refine (refOn_any _ (w.heap.size + 1) l o p 1 (by exact (ref_below HS.out HO.out HE.out (by exact (blw_alloc (Below.refl _ _) _).drew)).1) (by omega) h (by omega) (by omega) bd3).mono ?_
  rintro e w2 ⟨rfl, hrd, hgr⟩
  have R := Lib.hid (ref_gap HS.out HP.out HO.out HE.out (by exact (blw_alloc (Below.refl _ _) _).drew) hrd hgr (by omega) (by omega) hcnt H.out HX.out)
  clear hrd hgr
  go_wp2
  refine Handed.intro (l.length - o) HMM.out ?_
  refine hJ _ _ _ ?_
  unfold RI
  (repeat apply Exists.intro)
  exact ⟨R.out, rfl⟩

set_option maxHeartbeats 4000000 in
set_option maxRecDepth 1000000 in
theorem cs_sp2 (l : List UInt8) (w : World) (h : l.length ≤ 16384) (J : Nat → Act → World → Prop) (K K1 : Act → World → Prop) (gk : Nat) (wr : World) (c1 c14 c15 c16 c17 c18 c19 c20 c263 c264 c265 c266 c267 c268 c269 c270 c271 c272 c273 c274 c275 u2 u5 u6 u7 u8 u9 u10 u11 u12 u13 u21 u22 u23 u24 u25 u26 u27 u28 u29 u30 u31 u32 u33 u34 u35 u36 u37 u38 u39 u40 u41 u42 u43 u44 u45 u46 u47 u48 u49 u50 u51 u52 u53 u54 u55 u56 u57 u58 u59 u60 u61 u62 u63 u64 u65 u66 u67 u68 u69 u70 u71 u72 u73 u74 u75 u76 u77 u78 u79 u80 u81 u82 u83 u84 u85 u86 u87 u88 u89 u90 u91 u92 u93 u94 u95 u96 u97 u98 u99 u100 u101 u102 u103 u104 u105 u106 u107 u108 u109 u110 u111 u112 u113 u114 u115 u116 u117 u118 u119 u120 u121 u122 u123 u124 u125 u126 u127 u128 u129 u130 u131 u132 u133 u134 u135 u136 u137 u138 u139 u140 u141 u142 u143 u144 u145 u146 u147 u148 u149 u150 u151 u152 u153 u154 u155 u156 u157 u158 u159 u160 u161 u162 u163 u164 u165 u166 u167 u168 u169 u170 u171 u172 u173 u174 u175 u176 u177 u178 u179 u180 u181 u182 u183 u184 u185 u186 u187 u188 u189 u190 u191 u192 u193 u194 u195 u196 u197 u198 u199 u200 u201 u202 u203 u204 u205 u206 u207 u208 u209 u210 u211 u212 u213 u214 u215 u216 u217 u218 u219 u220 u221 u222 u223 u224 u225 u226 u227 u228 u229 u230 u231 u232 u233 u234 u235 u236 u237 u238 u239 u240 u241 u242 u243 u244 u245 u246 u247 u248 u249 u250 u251 u252 u253 u254 u255 u256 u257 u258 u259 u260 u261 u262 : Value) (o : Nat) (p : Nat × Nat) (ts : List Tk)
    (hrel : RefAt w l gk u5 wr o p ts) (hlt : o < l.length) (hsp : spaceB l[o] = true) (h1 : ((l[o].toNat : Int) == 32) = false) (h2 : ((l[o].toNat : Int) == 10) = true)
    (hJ : ∀ k a' w', RI w l c1 c14 c15 c16 c17 c18 c19 c20 c263 c264 c265 c266 c267 c268 c269 c270 c271 c272 c273 c274 c275 k a' w' → J k a' w') (hK : ∀ a' w', Handed J gk a' w' → K a' w') :
    Code.wp Try.prog refBody (Exit.then K (Exit.inBlock 0 (Exit.then K1 (bodyPost Try.prog Try.f9 (fun e w' => ReadPost w l e w'))))) ⟨#[.string (bt l), c1, u2, .pointer (some ⟨w.heap.size, 0, none⟩), .pointer (some ⟨w.heap.size + 1, 0, none⟩), u5, u6, u7, u8, u9, u10, u11, u12, u13, c14, c15, c16, c17, c18, c19, c20, u21, u22, u23, u24, u25, u26, u27, u28, u29, u30, u31, u32, u33, u34, u35, u36, u37, u38, u39, u40, u41, u42, u43, u44, u45, u46, u47, u48, u49, u50, u51, u52, u53, u54, u55, u56, u57, u58, u59, u60, u61, u62, u63, u64, u65, u66, u67, u68, u69, u70, u71, u72, u73, u74, u75, u76, u77, u78, u79, u80, u81, u82, u83, u84, u85, u86, u87, u88, u89, u90, u91, u92, u93, u94, u95, u96, u97, u98, u99, u100, u101, u102, u103, u104, u105, u106, u107, u108, u109, u110, u111, u112, u113, u114, u115, u116, u117, u118, u119, u120, u121, u122, u123, u124, u125, u126, u127, u128, u129, u130, u131, u132, u133, u134, u135, u136, u137, u138, u139, u140, u141, u142, u143, u144, u145, u146, u147, u148, u149, u150, u151, u152, u153, u154, u155, u156, u157, u158, u159, u160, u161, u162, u163, u164, u165, u166, u167, u168, u169, u170, u171, u172, u173, u174, u175, u176, u177, u178, u179, u180, u181, u182, u183, u184, u185, u186, u187, u188, u189, u190, u191, u192, u193, u194, u195, u196, u197, u198, u199, u200, u201, u202, u203, u204, u205, u206, u207, u208, u209, u210, u211, u212, u213, u214, u215, u216, u217, u218, u219, u220, u221, u222, u223, u224, u225, u226, u227, u228, u229, u230, u231, u232, u233, u234, u235, u236, u237, u238, u239, u240, u241, u242, u243, u244, u245, u246, u247, u248, u249, u250, u251, u252, u253, u254, u255, u256, u257, u258, u259, u260, u261, u262, c263, c264, c265, c266, c267, c268, c269, c270, c271, c272, c273, c274, c275], []⟩ wr := by
  obtain ⟨i0, hi, hz0, hz1, hz2⟩ := info_parts Try.infoTok
  obtain ⟨hs, hp, ho, hown, hbe, hcnt, hall, hmm⟩ := hrel
  obtain ⟨c0', c1', c2', c3'⟩ := rd_cells hs
  have hgz := rd_lt hs
  have hbd := adv_bd (l.take o) (1, 1) (by simp)
  rw [← hp] at hbd
  have htl : (l.take o).length ≤ o := List.length_take_le _ _
  simp only at hbd
  obtain ⟨bd1, bd2⟩ := hbd
  have bd3 : 1 ≤ p.2 := by rw [hp, advL_eq]; split <;> simp
  have H := Lib.hid hall
  have HS := Lib.hid hs
  have HP := Lib.hid hp
  have HO := Lib.hid hown
  have HE := Lib.hid hbe
  have HMM := Lib.hid hmm
  clear hall hs hp hown hbe hmm
  have hd := List.drop_eq_getElem_cons hlt
  have HD := Lib.hid hd
  clear hd
  have hb8 : (l[o].toNat : Int) ≤ 255 := by have := l[o].toNat_lt; omega
  have hx : lx (l.drop o) p = lx ((l.drop o).drop 1) (advL p ((l.drop o).take 1)) := by
    rw [HD.out]
    exact lx_space [l[o]] _ p (by simp [hsp])
  have HX := Lib.hid hx
  clear hx hsp
  conv => arg 2; whnf
  go_wp2
  go_region
  go_wp2_with fail
  refine (refOn_any _ (w.heap.size + 1) l o p 1 (by exact (ref_below HS.out HO.out HE.out (by exact (blw_alloc (Below.refl _ _) _).drew)).1) (by omega) h (by omega) (by omega) bd3).mono ?_
  rintro e w2 ⟨rfl, hrd, hgr⟩
  have R := Lib.hid (ref_gap HS.out HP.out HO.out HE.out (by exact (blw_alloc (Below.refl _ _) _).drew) hrd hgr (by omega) (by omega) hcnt H.out HX.out)
  clear hrd hgr
  go_wp2
  refine Handed.intro (l.length - o) HMM.out ?_
  refine hJ _ _ _ ?_
  unfold RI
  (repeat apply Exists.intro)
  exact ⟨R.out, rfl⟩
end Go.Proofs.Ytbjbmehkcfpahaa
