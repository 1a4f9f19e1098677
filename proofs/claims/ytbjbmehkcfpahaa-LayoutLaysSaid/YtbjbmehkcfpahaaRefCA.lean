/- One way through a round of the reference's loop: a blank. No condition but the length that every string keeps. -/
import Derived.Test.YtbjbmehkcfpahaaRefLaws
namespace Go.Proofs.Ytbjbmehkcfpahaa
section
open Go.RowKit Lx
attribute [local go_sem] bt_size bt_get bt_list bt_toList bt_drop bt_take

set_option maxHeartbeats 4000000 in
set_option maxRecDepth 1000000 in
theorem cs_sp1 (l : List UInt8) (w : World) (h : l.length ≤ 16384) (J : Nat → Act → World → Prop) (K K1 : Act → World → Prop) (gk : Nat) (wr : World) (c1 c14 c15 c16 c17 c18 c19 c20 c263 c264 c265 c266 c267 c268 c269 c270 c271 c272 c273 c274 c275 u2 u5 u6 u7 u8 u9 u10 u11 u12 u13 u21 u22 u23 u24 u25 u26 u27 u28 u29 u30 u31 u32 u33 u34 u35 u36 u37 u38 u39 u40 u41 u42 u43 u44 u45 u46 u47 u48 u49 u50 u51 u52 u53 u54 u55 u56 u57 u58 u59 u60 u61 u62 u63 u64 u65 u66 u67 u68 u69 u70 u71 u72 u73 u74 u75 u76 u77 u78 u79 u80 u81 u82 u83 u84 u85 u86 u87 u88 u89 u90 u91 u92 u93 u94 u95 u96 u97 u98 u99 u100 u101 u102 u103 u104 u105 u106 u107 u108 u109 u110 u111 u112 u113 u114 u115 u116 u117 u118 u119 u120 u121 u122 u123 u124 u125 u126 u127 u128 u129 u130 u131 u132 u133 u134 u135 u136 u137 u138 u139 u140 u141 u142 u143 u144 u145 u146 u147 u148 u149 u150 u151 u152 u153 u154 u155 u156 u157 u158 u159 u160 u161 u162 u163 u164 u165 u166 u167 u168 u169 u170 u171 u172 u173 u174 u175 u176 u177 u178 u179 u180 u181 u182 u183 u184 u185 u186 u187 u188 u189 u190 u191 u192 u193 u194 u195 u196 u197 u198 u199 u200 u201 u202 u203 u204 u205 u206 u207 u208 u209 u210 u211 u212 u213 u214 u215 u216 u217 u218 u219 u220 u221 u222 u223 u224 u225 u226 u227 u228 u229 u230 u231 u232 u233 u234 u235 u236 u237 u238 u239 u240 u241 u242 u243 u244 u245 u246 u247 u248 u249 u250 u251 u252 u253 u254 u255 u256 u257 u258 u259 u260 u261 u262 : Value) (o : Nat) (p : Nat × Nat) (ts : List Tk)
    (hrel : RefAt w l gk u5 wr o p ts) (hlt : o < l.length) (hsp : spaceB l[o] = true) (h1 : ((l[o].toNat : Int) == 32) = true)
    (hJ : ∀ k a' w', RI w l c1 c14 c15 c16 c17 c18 c19 c20 c263 c264 c265 c266 c267 c268 c269 c270 c271 c272 c273 c274 c275 k a' w' → J k a' w') (hK : ∀ a' w', Handed J gk a' w' → K a' w') :
    Code.wp Try.prog refBody (Exit.then K (Exit.inBlock 0 (Exit.then K1 (bodyPost Try.prog Try.f9 (fun e w' => ReadPost w l e w'))))) ⟨#[.string (bt l), c1, u2, .pointer (some ⟨w.heap.size, 0, none⟩), .pointer (some ⟨w.heap.size + 1, 0, none⟩), u5, u6, u7, u8, u9, u10, u11, u12, u13, c14, c15, c16, c17, c18, c19, c20, u21, u22, u23, u24, u25, u26, u27, u28, u29, u30, u31, u32, u33, u34, u35, u36, u37, u38, u39, u40, u41, u42, u43, u44, u45, u46, u47, u48, u49, u50, u51, u52, u53, u54, u55, u56, u57, u58, u59, u60, u61, u62, u63, u64, u65, u66, u67, u68, u69, u70, u71, u72, u73, u74, u75, u76, u77, u78, u79, u80, u81, u82, u83, u84, u85, u86, u87, u88, u89, u90, u91, u92, u93, u94, u95, u96, u97, u98, u99, u100, u101, u102, u103, u104, u105, u106, u107, u108, u109, u110, u111, u112, u113, u114, u115, u116, u117, u118, u119, u120, u121, u122, u123, u124, u125, u126, u127, u128, u129, u130, u131, u132, u133, u134, u135, u136, u137, u138, u139, u140, u141, u142, u143, u144, u145, u146, u147, u148, u149, u150, u151, u152, u153, u154, u155, u156, u157, u158, u159, u160, u161, u162, u163, u164, u165, u166, u167, u168, u169, u170, u171, u172, u173, u174, u175, u176, u177, u178, u179, u180, u181, u182, u183, u184, u185, u186, u187, u188, u189, u190, u191, u192, u193, u194, u195, u196, u197, u198, u199, u200, u201, u202, u203, u204, u205, u206, u207, u208, u209, u210, u211, u212, u213, u214, u215, u216, u217, u218, u219, u220, u221, u222, u223, u224, u225, u226, u227, u228, u229, u230, u231, u232, u233, u234, u235, u236, u237, u238, u239, u240, u241, u242, u243, u244, u245, u246, u247, u248, u249, u250, u251, u252, u253, u254, u255, u256, u257, u258, u259, u260, u261, u262, c263, c264, c265, c266, c267, c268, c269, c270, c271, c272, c273, c274, c275], []⟩ wr := by
  obtain ⟨i0, hi, hz0, hz1, hz2⟩ := info_parts Try.infoTok
  obtain ⟨hs, hp, ho, hown, hbe, hcnt, hall, hmm⟩ := hrel
  obtain ⟨c0', c1', c2', c3'⟩ := rd_cells hs
  have hgz := rd_lt hs
  have hbd := adv_bd (l.take o) (1, 1) (by simp)
  rw [← hp] at hbd
  have htl : (l.take o).length ≤ o := List.length_take_le _ _
  simp only at hbd
  obtain ⟨bd1, bd2⟩ := hbd
  have bd3 : 1 ≤ p.2 := by rw [hp, advL_eq]; split <;> simp
  have H := Lib.hid hall
  have HS := Lib.hid hs
  have HP := Lib.hid hp
  have HO := Lib.hid hown
  have HE := Lib.hid hbe
  have HMM := Lib.hid hmm
  clear hall hs hp hown hbe hmm
  have hd := List.drop_eq_getElem_cons hlt
  have HD := Lib.hid hd
  clear hd
  have hb8 : (l[o].toNat : Int) ≤ 255 := by have := l[o].toNat_lt; omega
  have hx : lx (l.drop o) p = lx ((l.drop o).drop 1) (advL p ((l.drop o).take 1)) := by
    rw [HD.out]
    exact lx_space [l[o]] _ p (by simp [hsp])
  have HX := Lib.hid hx
  clear hx hsp
  conv => arg 2; whnf
  go_wp2
  go_region
  go_wp2_with fail
  refine (refOn_any _ (w.heap.size + 1) l o p 1 (by exact (ref_below HS.out HO.out HE.out (by exact (blw_alloc (Below.refl _ _) _).drew)).1) (by omega) h (by omega) (by omega) bd3).mono ?_
  rintro e w2 ⟨rfl, hrd, hgr⟩
  have R := Lib.hid (ref_gap HS.out HP.out HO.out HE.out (by exact (blw_alloc (Below.refl _ _) _).drew) hrd hgr (by omega) (by omega) hcnt H.out HX.out)
  clear hrd hgr
  go_wp2
  refine Handed.intro (l.length - o) HMM.out ?_
  refine hJ _ _ _ ?_
  unfold RI
  (repeat apply Exists.intro)
  exact ⟨R.out, rfl⟩

set_option maxHeartbeats 4000000 in
set_option maxRecDepth 1000000 in
theorem cs_sp2 (l : List UInt8) (w : World) (h : l.length ≤ 16384) (J : Nat → Act → World → Prop) (K K1 : Act → World → Prop) (gk : Nat) (wr : World) (c1 c14 c15 c16 c17 c18 c19 c20 c263 c264 c265 c266 c267 c268 c269 c270 c271 c272 c273 c274 c275 u2 u5 u6 u7 u8 u9 u10 u11 u12 u13 u21 u22 u23 u24 u25 u26 u27 u28 u29 u30 u31 u32 u33 u34 u35 u36 u37 u38 u39 u40 u41 u42 u43 u44 u45 u46 u47 u48 u49 u50 u51 u52 u53 u54 u55 u56 u57 u58 u59 u60 u61 u62 u63 u64 u65 u66 u67 u68 u69 u70 u71 u72 u73 u74 u75 u76 u77 u78 u79 u80 u81 u82 u83 u84 u85 u86 u87 u88 u89 u90 u91 u92 u93 u94 u95 u96 u97 u98 u99 u100 u101 u102 u103 u104 u105 u106 u107 u108 u109 u110 u111 u112 u113 u114 u115 u116 u117 u118 u119 u120 u121 u122 u123 u124 u125 u126 u127 u128 u129 u130 u131 u132 u133 u134 u135 u136 u137 u138 u139 u140 u141 u142 u143 u144 u145 u146 u147 u148 u149 u150 u151 u152 u153 u154 u155 u156 u157 u158 u159 u160 u161 u162 u163 u164 u165 u166 u167 u168 u169 u170 u171 u172 u173 u174 u175 u176 u177 u178 u179 u180 u181 u182 u183 u184 u185 u186 u187 u188 u189 u190 u191 u192 u193 u194 u195 u196 u197 u198 u199 u200 u201 u202 u203 u204 u205 u206 u207 u208 u209 u210 u211 u212 u213 u214 u215 u216 u217 u218 u219 u220 u221 u222 u223 u224 u225 u226 u227 u228 u229 u230 u231 u232 u233 u234 u235 u236 u237 u238 u239 u240 u241 u242 u243 u244 u245 u246 u247 u248 u249 u250 u251 u252 u253 u254 u255 u256 u257 u258 u259 u260 u261 u262 : Value) (o : Nat) (p : Nat × Nat) (ts : List Tk)
    (hrel : RefAt w l gk u5 wr o p ts) (hlt : o < l.length) (hsp : spaceB l[o] = true) (h1 : ((l[o].toNat : Int) == 32) = false) (h2 : ((l[o].toNat : Int) == 10) = true)
    (hJ : ∀ k a' w', RI w l c1 c14 c15 c16 c17 c18 c19 c20 c263 c264 c265 c266 c267 c268 c269 c270 c271 c272 c273 c274 c275 k a' w' → J k a' w') (hK : ∀ a' w', Handed J gk a' w' → K a' w') :
    Code.wp Try.prog refBody (Exit.then K (Exit.inBlock 0 (Exit.then K1 (bodyPost Try.prog Try.f9 (fun e w' => ReadPost w l e w'))))) ⟨#[.string (bt l), c1, u2, .pointer (some ⟨w.heap.size, 0, none⟩), .pointer (some ⟨w.heap.size + 1, 0, none⟩), u5, u6, u7, u8, u9, u10, u11, u12, u13, c14, c15, c16, c17, c18, c19, c20, u21, u22, u23, u24, u25, u26, u27, u28, u29, u30, u31, u32, u33, u34, u35, u36, u37, u38, u39, u40, u41, u42, u43, u44, u45, u46, u47, u48, u49, u50, u51, u52, u53, u54, u55, u56, u57, u58, u59, u60, u61, u62, u63, u64, u65, u66, u67, u68, u69, u70, u71, u72, u73, u74, u75, u76, u77, u78, u79, u80, u81, u82, u83, u84, u85, u86, u87, u88, u89, u90, u91, u92, u93, u94, u95, u96, u97, u98, u99, u100, u101, u102, u103, u104, u105, u106, u107, u108, u109, u110, u111, u112, u113, u114, u115, u116, u117, u118, u119, u120, u121, u122, u123, u124, u125, u126, u127, u128, u129, u130, u131, u132, u133, u134, u135, u136, u137, u138, u139, u140, u141, u142, u143, u144, u145, u146, u147, u148, u149, u150, u151, u152, u153, u154, u155, u156, u157, u158, u159, u160, u161, u162, u163, u164, u165, u166, u167, u168, u169, u170, u171, u172, u173, u174, u175, u176, u177, u178, u179, u180, u181, u182, u183, u184, u185, u186, u187, u188, u189, u190, u191, u192, u193, u194, u195, u196, u197, u198, u199, u200, u201, u202, u203, u204, u205, u206, u207, u208, u209, u210, u211, u212, u213, u214, u215, u216, u217, u218, u219, u220, u221, u222, u223, u224, u225, u226, u227, u228, u229, u230, u231, u232, u233, u234, u235, u236, u237, u238, u239, u240, u241, u242, u243, u244, u245, u246, u247, u248, u249, u250, u251, u252, u253, u254, u255, u256, u257, u258, u259, u260, u261, u262, c263, c264, c265, c266, c267, c268, c269, c270, c271, c272, c273, c274, c275], []⟩ wr := by
  obtain ⟨i0, hi, hz0, hz1, hz2⟩ := info_parts Try.infoTok
  obtain ⟨hs, hp, ho, hown, hbe, hcnt, hall, hmm⟩ := hrel
  obtain ⟨c0', c1', c2', c3'⟩ := rd_cells hs
  have hgz := rd_lt hs
  have hbd := adv_bd (l.take o) (1, 1) (by simp)
  rw [← hp] at hbd
  have htl : (l.take o).length ≤ o := List.length_take_le _ _
  simp only at hbd
  obtain ⟨bd1, bd2⟩ := hbd
  have bd3 : 1 ≤ p.2 := by rw [hp, advL_eq]; split <;> simp
  have H := Lib.hid hall
  have HS := Lib.hid hs
  have HP := Lib.hid hp
  have HO := Lib.hid hown
  have HE := Lib.hid hbe
  have HMM := Lib.hid hmm
  clear hall hs hp hown hbe hmm
  have hd := List.drop_eq_getElem_cons hlt
  have HD := Lib.hid hd
  clear hd
  have hb8 : (l[o].toNat : Int) ≤ 255 := by have := l[o].toNat_lt; omega
  have hx : lx (l.drop o) p = lx ((l.drop o).drop 1) (advL p ((l.drop o).take 1)) := by
    rw [HD.out]
    exact lx_space [l[o]] _ p (by simp [hsp])
  have HX := Lib.hid hx
  clear hx hsp
  conv => arg 2; whnf
  go_wp2
  go_region
  go_wp2_with fail
  refine (refOn_any _ (w.heap.size + 1) l o p 1 (by exact (ref_below HS.out HO.out HE.out (by exact (blw_alloc (Below.refl _ _) _).drew)).1) (by omega) h (by omega) (by omega) bd3).mono ?_
  rintro e w2 ⟨rfl, hrd, hgr⟩
  have R := Lib.hid (ref_gap HS.out HP.out HO.out HE.out (by exact (blw_alloc (Below.refl _ _) _).drew) hrd hgr (by omega) (by omega) hcnt H.out HX.out)
  clear hrd hgr
  go_wp2
  refine Handed.intro (l.length - o) HMM.out ?_
  refine hJ _ _ _ ?_
  unfold RI
  (repeat apply Exists.intro)
  exact ⟨R.out, rfl⟩
end

section
open Go.RowKit Lx
attribute [local go_sem] bt_size bt_get bt_list bt_toList bt_drop bt_take

set_option maxHeartbeats 4000000 in
set_option maxRecDepth 1000000 in
theorem cs_op1 (l : List UInt8) (w : World) (h : l.length ≤ 16384) (J : Nat → Act → World → Prop) (K K1 : Act → World → Prop) (gk : Nat) (wr : World) (c1 c14 c15 c16 c17 c18 c19 c20 c263 c264 c265 c266 c267 c268 c269 c270 c271 c272 c273 c274 c275 u2 u5 u6 u7 u8 u9 u10 u11 u12 u13 u21 u22 u23 u24 u25 u26 u27 u28 u29 u30 u31 u32 u33 u34 u35 u36 u37 u38 u39 u40 u41 u42 u43 u44 u45 u46 u47 u48 u49 u50 u51 u52 u53 u54 u55 u56 u57 u58 u59 u60 u61 u62 u63 u64 u65 u66 u67 u68 u69 u70 u71 u72 u73 u74 u75 u76 u77 u78 u79 u80 u81 u82 u83 u84 u85 u86 u87 u88 u89 u90 u91 u92 u93 u94 u95 u96 u97 u98 u99 u100 u101 u102 u103 u104 u105 u106 u107 u108 u109 u110 u111 u112 u113 u114 u115 u116 u117 u118 u119 u120 u121 u122 u123 u124 u125 u126 u127 u128 u129 u130 u131 u132 u133 u134 u135 u136 u137 u138 u139 u140 u141 u142 u143 u144 u145 u146 u147 u148 u149 u150 u151 u152 u153 u154 u155 u156 u157 u158 u159 u160 u161 u162 u163 u164 u165 u166 u167 u168 u169 u170 u171 u172 u173 u174 u175 u176 u177 u178 u179 u180 u181 u182 u183 u184 u185 u186 u187 u188 u189 u190 u191 u192 u193 u194 u195 u196 u197 u198 u199 u200 u201 u202 u203 u204 u205 u206 u207 u208 u209 u210 u211 u212 u213 u214 u215 u216 u217 u218 u219 u220 u221 u222 u223 u224 u225 u226 u227 u228 u229 u230 u231 u232 u233 u234 u235 u236 u237 u238 u239 u240 u241 u242 u243 u244 u245 u246 u247 u248 u249 u250 u251 u252 u253 u254 u255 u256 u257 u258 u259 u260 u261 u262 : Value) (o : Nat) (p : Nat × Nat) (ts : List Tk)
    (hrel : RefAt w l gk u5 wr o p ts) (hlt : o < l.length) (hsp : ¬ spaceB l[o] = true) (hop : openB (l.drop o) = true) (hbk : blkL (l.drop o).length 0 (l.drop o) = none)
    (_hJ : ∀ k a' w', RI w l c1 c14 c15 c16 c17 c18 c19 c20 c263 c264 c265 c266 c267 c268 c269 c270 c271 c272 c273 c274 c275 k a' w' → J k a' w') (_hK : ∀ a' w', Handed J gk a' w' → K a' w') :
    Code.wp Try.prog refBody (Exit.then K (Exit.inBlock 0 (Exit.then K1 (bodyPost Try.prog Try.f9 (fun e w' => ReadPost w l e w'))))) ⟨#[.string (bt l), c1, u2, .pointer (some ⟨w.heap.size, 0, none⟩), .pointer (some ⟨w.heap.size + 1, 0, none⟩), u5, u6, u7, u8, u9, u10, u11, u12, u13, c14, c15, c16, c17, c18, c19, c20, u21, u22, u23, u24, u25, u26, u27, u28, u29, u30, u31, u32, u33, u34, u35, u36, u37, u38, u39, u40, u41, u42, u43, u44, u45, u46, u47, u48, u49, u50, u51, u52, u53, u54, u55, u56, u57, u58, u59, u60, u61, u62, u63, u64, u65, u66, u67, u68, u69, u70, u71, u72, u73, u74, u75, u76, u77, u78, u79, u80, u81, u82, u83, u84, u85, u86, u87, u88, u89, u90, u91, u92, u93, u94, u95, u96, u97, u98, u99, u100, u101, u102, u103, u104, u105, u106, u107, u108, u109, u110, u111, u112, u113, u114, u115, u116, u117, u118, u119, u120, u121, u122, u123, u124, u125, u126, u127, u128, u129, u130, u131, u132, u133, u134, u135, u136, u137, u138, u139, u140, u141, u142, u143, u144, u145, u146, u147, u148, u149, u150, u151, u152, u153, u154, u155, u156, u157, u158, u159, u160, u161, u162, u163, u164, u165, u166, u167, u168, u169, u170, u171, u172, u173, u174, u175, u176, u177, u178, u179, u180, u181, u182, u183, u184, u185, u186, u187, u188, u189, u190, u191, u192, u193, u194, u195, u196, u197, u198, u199, u200, u201, u202, u203, u204, u205, u206, u207, u208, u209, u210, u211, u212, u213, u214, u215, u216, u217, u218, u219, u220, u221, u222, u223, u224, u225, u226, u227, u228, u229, u230, u231, u232, u233, u234, u235, u236, u237, u238, u239, u240, u241, u242, u243, u244, u245, u246, u247, u248, u249, u250, u251, u252, u253, u254, u255, u256, u257, u258, u259, u260, u261, u262, c263, c264, c265, c266, c267, c268, c269, c270, c271, c272, c273, c274, c275], []⟩ wr := by
  obtain ⟨i0, hi, hz0, hz1, hz2⟩ := info_parts Try.infoTok
  obtain ⟨hs, hp, ho, hown, hbe, hcnt, hall, hmm⟩ := hrel
  obtain ⟨c0', c1', c2', c3'⟩ := rd_cells hs
  have hgz := rd_lt hs
  have hbd := adv_bd (l.take o) (1, 1) (by simp)
  rw [← hp] at hbd
  have htl : (l.take o).length ≤ o := List.length_take_le _ _
  simp only at hbd
  obtain ⟨bd1, bd2⟩ := hbd
  have bd3 : 1 ≤ p.2 := by rw [hp, advL_eq]; split <;> simp
  have H := Lib.hid hall
  have HS := Lib.hid hs
  have HP := Lib.hid hp
  have HO := Lib.hid hown
  have HE := Lib.hid hbe
  have HMM := Lib.hid hmm
  clear hall hs hp hown hbe hmm
  have hd := List.drop_eq_getElem_cons hlt
  have HD := Lib.hid hd
  clear hd
  have hb8 : (l[o].toNat : Int) ≤ 255 := by have := l[o].toNat_lt; omega
  have hsp' : spaceB l[o] = false := by simpa using hsp
  have q1 : ((l[o].toNat : Int) == 32) = false := byte_ne (b := 32) (fun e => by rw [e] at hsp'; exact absurd hsp' (by decide))
  have q2 : ((l[o].toNat : Int) == 10) = false := byte_ne (b := 10) (fun e => by rw [e] at hsp'; exact absurd hsp' (by decide))
  have ho2 : o + 1 < l.length := by
    have := List.IsPrefix.length_le (List.isPrefixOf_iff_prefix.1 hop)
    simp at this
    omega
  have h12 : l[o] = 123 ∧ l[o + 1] = 45 := by
    rw [HD.out, List.drop_eq_getElem_cons ho2] at hop
    simp [openB, List.isPrefixOf] at hop
    exact ⟨hop.1.symm, hop.2.symm⟩
  have r1 : ((l[o].toNat : Int) == 123) = true := by rw [h12.1]; rfl
  have r2 : ((l[o + 1].toNat : Int) == 45) = true := by rw [h12.2]; rfl
  have hgo := gap_open hop
  have HOp := Lib.hid hop
  clear h12 hop
  have hx : lx (l.drop o) p = .error ⟨p.1, p.2, 14⟩ := lx_none (by rw [hgo, hbk])
  have HX := Lib.hid hx
  have HBk := Lib.hid hbk
  clear hx hgo hbk
  conv => arg 2; whnf
  go_wp2
  go_region
  go_wp2_with fail
  refine (refRemark_any _ (w.heap.size + 1) l o p (by exact (ref_below HS.out HO.out HE.out (by exact (blw_alloc (Below.refl _ _) _).drew)).1) HOp.out hlt h).mono ?_
  rintro e w2 ⟨rfl, rfl⟩
  rw [HBk.out]
  unfold remV
  go_wp2_with fail
  refine (refBad_any _ (w.heap.size + 1) l o p 14 (by exact (ref_below HS.out HO.out HE.out (by exact (blw_alloc (Below.refl _ _) _).drew)).1)).mono ?_
  rintro e w3 ⟨rfl, hb3⟩
  obtain ⟨_, _, be3⟩ := ref_below HS.out HO.out HE.out (blw_trans (by exact (blw_alloc (Below.refl _ _) _).drew) hb3)
  obtain ⟨dz, d0, d1, d2, d3, e0, e1, e2, e3⟩ := diag_cells be3
  have HE3 := Lib.hid be3
  clear be3 hb3
  unfold diagV
  go_wp2
  refine bodyPost_ret (v := .tuple #[.slice none 0 0, diagV p.1 p.2 14]) (by simp [results, go_sem, diagV, d0, d1, d2, d3]) rfl ?_
  unfold ReadPost
  rw [H.out, HX.out]
  exact ⟨rfl, below_set4 (below_diag HE3.out) (Nat.le_refl _) _ _ _ _⟩
end

section
open Go.RowKit Lx
attribute [local go_sem] bt_size bt_get bt_list bt_toList bt_drop bt_take

set_option maxHeartbeats 4000000 in
set_option maxRecDepth 1000000 in
theorem cs_op2 (l : List UInt8) (w : World) (h : l.length ≤ 16384) (J : Nat → Act → World → Prop) (K K1 : Act → World → Prop) (gk : Nat) (wr : World) (c1 c14 c15 c16 c17 c18 c19 c20 c263 c264 c265 c266 c267 c268 c269 c270 c271 c272 c273 c274 c275 u2 u5 u6 u7 u8 u9 u10 u11 u12 u13 u21 u22 u23 u24 u25 u26 u27 u28 u29 u30 u31 u32 u33 u34 u35 u36 u37 u38 u39 u40 u41 u42 u43 u44 u45 u46 u47 u48 u49 u50 u51 u52 u53 u54 u55 u56 u57 u58 u59 u60 u61 u62 u63 u64 u65 u66 u67 u68 u69 u70 u71 u72 u73 u74 u75 u76 u77 u78 u79 u80 u81 u82 u83 u84 u85 u86 u87 u88 u89 u90 u91 u92 u93 u94 u95 u96 u97 u98 u99 u100 u101 u102 u103 u104 u105 u106 u107 u108 u109 u110 u111 u112 u113 u114 u115 u116 u117 u118 u119 u120 u121 u122 u123 u124 u125 u126 u127 u128 u129 u130 u131 u132 u133 u134 u135 u136 u137 u138 u139 u140 u141 u142 u143 u144 u145 u146 u147 u148 u149 u150 u151 u152 u153 u154 u155 u156 u157 u158 u159 u160 u161 u162 u163 u164 u165 u166 u167 u168 u169 u170 u171 u172 u173 u174 u175 u176 u177 u178 u179 u180 u181 u182 u183 u184 u185 u186 u187 u188 u189 u190 u191 u192 u193 u194 u195 u196 u197 u198 u199 u200 u201 u202 u203 u204 u205 u206 u207 u208 u209 u210 u211 u212 u213 u214 u215 u216 u217 u218 u219 u220 u221 u222 u223 u224 u225 u226 u227 u228 u229 u230 u231 u232 u233 u234 u235 u236 u237 u238 u239 u240 u241 u242 u243 u244 u245 u246 u247 u248 u249 u250 u251 u252 u253 u254 u255 u256 u257 u258 u259 u260 u261 u262 : Value) (o : Nat) (p : Nat × Nat) (ts : List Tk)
    (hrel : RefAt w l gk u5 wr o p ts) (hlt : o < l.length) (hsp : ¬ spaceB l[o] = true) (hop : openB (l.drop o) = true) (n : Nat) (hbk : blkL (l.drop o).length 0 (l.drop o) = some n)
    (hJ : ∀ k a' w', RI w l c1 c14 c15 c16 c17 c18 c19 c20 c263 c264 c265 c266 c267 c268 c269 c270 c271 c272 c273 c274 c275 k a' w' → J k a' w') (hK : ∀ a' w', Handed J gk a' w' → K a' w') :
    Code.wp Try.prog refBody (Exit.then K (Exit.inBlock 0 (Exit.then K1 (bodyPost Try.prog Try.f9 (fun e w' => ReadPost w l e w'))))) ⟨#[.string (bt l), c1, u2, .pointer (some ⟨w.heap.size, 0, none⟩), .pointer (some ⟨w.heap.size + 1, 0, none⟩), u5, u6, u7, u8, u9, u10, u11, u12, u13, c14, c15, c16, c17, c18, c19, c20, u21, u22, u23, u24, u25, u26, u27, u28, u29, u30, u31, u32, u33, u34, u35, u36, u37, u38, u39, u40, u41, u42, u43, u44, u45, u46, u47, u48, u49, u50, u51, u52, u53, u54, u55, u56, u57, u58, u59, u60, u61, u62, u63, u64, u65, u66, u67, u68, u69, u70, u71, u72, u73, u74, u75, u76, u77, u78, u79, u80, u81, u82, u83, u84, u85, u86, u87, u88, u89, u90, u91, u92, u93, u94, u95, u96, u97, u98, u99, u100, u101, u102, u103, u104, u105, u106, u107, u108, u109, u110, u111, u112, u113, u114, u115, u116, u117, u118, u119, u120, u121, u122, u123, u124, u125, u126, u127, u128, u129, u130, u131, u132, u133, u134, u135, u136, u137, u138, u139, u140, u141, u142, u143, u144, u145, u146, u147, u148, u149, u150, u151, u152, u153, u154, u155, u156, u157, u158, u159, u160, u161, u162, u163, u164, u165, u166, u167, u168, u169, u170, u171, u172, u173, u174, u175, u176, u177, u178, u179, u180, u181, u182, u183, u184, u185, u186, u187, u188, u189, u190, u191, u192, u193, u194, u195, u196, u197, u198, u199, u200, u201, u202, u203, u204, u205, u206, u207, u208, u209, u210, u211, u212, u213, u214, u215, u216, u217, u218, u219, u220, u221, u222, u223, u224, u225, u226, u227, u228, u229, u230, u231, u232, u233, u234, u235, u236, u237, u238, u239, u240, u241, u242, u243, u244, u245, u246, u247, u248, u249, u250, u251, u252, u253, u254, u255, u256, u257, u258, u259, u260, u261, u262, c263, c264, c265, c266, c267, c268, c269, c270, c271, c272, c273, c274, c275], []⟩ wr := by
  obtain ⟨i0, hi, hz0, hz1, hz2⟩ := info_parts Try.infoTok
  obtain ⟨hs, hp, ho, hown, hbe, hcnt, hall, hmm⟩ := hrel
  obtain ⟨c0', c1', c2', c3'⟩ := rd_cells hs
  have hgz := rd_lt hs
  have hbd := adv_bd (l.take o) (1, 1) (by simp)
  rw [← hp] at hbd
  have htl : (l.take o).length ≤ o := List.length_take_le _ _
  simp only at hbd
  obtain ⟨bd1, bd2⟩ := hbd
  have bd3 : 1 ≤ p.2 := by rw [hp, advL_eq]; split <;> simp
  have H := Lib.hid hall
  have HS := Lib.hid hs
  have HP := Lib.hid hp
  have HO := Lib.hid hown
  have HE := Lib.hid hbe
  have HMM := Lib.hid hmm
  clear hall hs hp hown hbe hmm
  have hd := List.drop_eq_getElem_cons hlt
  have HD := Lib.hid hd
  clear hd
  have hb8 : (l[o].toNat : Int) ≤ 255 := by have := l[o].toNat_lt; omega
  have hsp' : spaceB l[o] = false := by simpa using hsp
  have q1 : ((l[o].toNat : Int) == 32) = false := byte_ne (b := 32) (fun e => by rw [e] at hsp'; exact absurd hsp' (by decide))
  have q2 : ((l[o].toNat : Int) == 10) = false := byte_ne (b := 10) (fun e => by rw [e] at hsp'; exact absurd hsp' (by decide))
  have ho2 : o + 1 < l.length := by
    have := List.IsPrefix.length_le (List.isPrefixOf_iff_prefix.1 hop)
    simp at this
    omega
  have h12 : l[o] = 123 ∧ l[o + 1] = 45 := by
    rw [HD.out, List.drop_eq_getElem_cons ho2] at hop
    simp [openB, List.isPrefixOf] at hop
    exact ⟨hop.1.symm, hop.2.symm⟩
  have r1 : ((l[o].toNat : Int) == 123) = true := by rw [h12.1]; rfl
  have r2 : ((l[o + 1].toNat : Int) == 45) = true := by rw [h12.2]; rfl
  have hgo := gap_open hop
  have HOp := Lib.hid hop
  clear h12 hop
  have hn1 := blk_pos _ _ _ _ hbk
  have hn2 : o + n ≤ l.length := by have := blk_le _ _ _ _ hbk; simp at this; omega
  obtain ⟨n', hn'⟩ : ∃ n', n = n' + 1 := ⟨n - 1, by omega⟩
  have hx : lx (l.drop o) p = lx ((l.drop o).drop n) (advL p ((l.drop o).take n)) := by
    rw [hn'] at hbk ⊢
    exact lx_gap (by rw [hgo, hbk])
  have HX := Lib.hid hx
  have HBk := Lib.hid hbk
  clear hx hgo hbk hn'
  conv => arg 2; whnf
  go_wp2
  go_region
  go_wp2_with fail
  refine (refRemark_any _ (w.heap.size + 1) l o p (by exact (ref_below HS.out HO.out HE.out (by exact (blw_alloc (Below.refl _ _) _).drew)).1) HOp.out hlt h).mono ?_
  rintro e w2 ⟨rfl, rfl⟩
  rw [HBk.out]
  unfold remV
  simp only
  go_wp2_with fail
  refine (refOn_any _ (w.heap.size + 1) l o p n (by exact (ref_below HS.out HO.out HE.out (by exact (blw_alloc (Below.refl _ _) _).drew)).1) hn2 h (by omega) (by omega) bd3).mono ?_
  rintro e w2 ⟨rfl, hrd, hgr⟩
  have R := Lib.hid (ref_gap HS.out HP.out HO.out HE.out (by exact (blw_alloc (Below.refl _ _) _).drew) hrd hgr hn1 hn2 hcnt H.out HX.out)
  clear hrd hgr
  go_wp2
  refine Handed.intro (l.length - o) HMM.out ?_
  refine hJ _ _ _ ?_
  unfold RI
  (repeat apply Exists.intro)
  exact ⟨R.out, rfl⟩
end

section
open Go.RowKit Lx
attribute [local go_sem] bt_size bt_get bt_list bt_toList bt_drop bt_take

set_option maxHeartbeats 4000000 in
set_option maxRecDepth 1000000 in
theorem cs_none (l : List UInt8) (w : World) (_h : l.length ≤ 16384) (J : Nat → Act → World → Prop) (K K1 : Act → World → Prop) (gk : Nat) (wr : World) (c1 c14 c15 c16 c17 c18 c19 c20 c263 c264 c265 c266 c267 c268 c269 c270 c271 c272 c273 c274 c275 u2 u5 u6 u7 u8 u9 u10 u11 u12 u13 u21 u22 u23 u24 u25 u26 u27 u28 u29 u30 u31 u32 u33 u34 u35 u36 u37 u38 u39 u40 u41 u42 u43 u44 u45 u46 u47 u48 u49 u50 u51 u52 u53 u54 u55 u56 u57 u58 u59 u60 u61 u62 u63 u64 u65 u66 u67 u68 u69 u70 u71 u72 u73 u74 u75 u76 u77 u78 u79 u80 u81 u82 u83 u84 u85 u86 u87 u88 u89 u90 u91 u92 u93 u94 u95 u96 u97 u98 u99 u100 u101 u102 u103 u104 u105 u106 u107 u108 u109 u110 u111 u112 u113 u114 u115 u116 u117 u118 u119 u120 u121 u122 u123 u124 u125 u126 u127 u128 u129 u130 u131 u132 u133 u134 u135 u136 u137 u138 u139 u140 u141 u142 u143 u144 u145 u146 u147 u148 u149 u150 u151 u152 u153 u154 u155 u156 u157 u158 u159 u160 u161 u162 u163 u164 u165 u166 u167 u168 u169 u170 u171 u172 u173 u174 u175 u176 u177 u178 u179 u180 u181 u182 u183 u184 u185 u186 u187 u188 u189 u190 u191 u192 u193 u194 u195 u196 u197 u198 u199 u200 u201 u202 u203 u204 u205 u206 u207 u208 u209 u210 u211 u212 u213 u214 u215 u216 u217 u218 u219 u220 u221 u222 u223 u224 u225 u226 u227 u228 u229 u230 u231 u232 u233 u234 u235 u236 u237 u238 u239 u240 u241 u242 u243 u244 u245 u246 u247 u248 u249 u250 u251 u252 u253 u254 u255 u256 u257 u258 u259 u260 u261 u262 : Value) (o : Nat) (p : Nat × Nat) (ts : List Tk)
    (hrel : RefAt w l gk u5 wr o p ts) (hlt : o < l.length) (hsp : ¬ spaceB l[o] = true) (hop : ¬ openB (l.drop o) = true) (h1 : letB l[o] = false) (h95 : ¬ l[o] = 95) (h3 : digB l[o] = false) (h4 : symB l[o] = false) (h5 : brkB l[o] = false) (h6 : ¬ l[o] = 34)
    (_hJ : ∀ k a' w', RI w l c1 c14 c15 c16 c17 c18 c19 c20 c263 c264 c265 c266 c267 c268 c269 c270 c271 c272 c273 c274 c275 k a' w' → J k a' w') (_hK : ∀ a' w', Handed J gk a' w' → K a' w') :
    Code.wp Try.prog refBody (Exit.then K (Exit.inBlock 0 (Exit.then K1 (bodyPost Try.prog Try.f9 (fun e w' => ReadPost w l e w'))))) ⟨#[.string (bt l), c1, u2, .pointer (some ⟨w.heap.size, 0, none⟩), .pointer (some ⟨w.heap.size + 1, 0, none⟩), u5, u6, u7, u8, u9, u10, u11, u12, u13, c14, c15, c16, c17, c18, c19, c20, u21, u22, u23, u24, u25, u26, u27, u28, u29, u30, u31, u32, u33, u34, u35, u36, u37, u38, u39, u40, u41, u42, u43, u44, u45, u46, u47, u48, u49, u50, u51, u52, u53, u54, u55, u56, u57, u58, u59, u60, u61, u62, u63, u64, u65, u66, u67, u68, u69, u70, u71, u72, u73, u74, u75, u76, u77, u78, u79, u80, u81, u82, u83, u84, u85, u86, u87, u88, u89, u90, u91, u92, u93, u94, u95, u96, u97, u98, u99, u100, u101, u102, u103, u104, u105, u106, u107, u108, u109, u110, u111, u112, u113, u114, u115, u116, u117, u118, u119, u120, u121, u122, u123, u124, u125, u126, u127, u128, u129, u130, u131, u132, u133, u134, u135, u136, u137, u138, u139, u140, u141, u142, u143, u144, u145, u146, u147, u148, u149, u150, u151, u152, u153, u154, u155, u156, u157, u158, u159, u160, u161, u162, u163, u164, u165, u166, u167, u168, u169, u170, u171, u172, u173, u174, u175, u176, u177, u178, u179, u180, u181, u182, u183, u184, u185, u186, u187, u188, u189, u190, u191, u192, u193, u194, u195, u196, u197, u198, u199, u200, u201, u202, u203, u204, u205, u206, u207, u208, u209, u210, u211, u212, u213, u214, u215, u216, u217, u218, u219, u220, u221, u222, u223, u224, u225, u226, u227, u228, u229, u230, u231, u232, u233, u234, u235, u236, u237, u238, u239, u240, u241, u242, u243, u244, u245, u246, u247, u248, u249, u250, u251, u252, u253, u254, u255, u256, u257, u258, u259, u260, u261, u262, c263, c264, c265, c266, c267, c268, c269, c270, c271, c272, c273, c274, c275], []⟩ wr := by
  obtain ⟨i0, hi, hz0, hz1, hz2⟩ := info_parts Try.infoTok
  obtain ⟨hs, hp, ho, hown, hbe, hcnt, hall, hmm⟩ := hrel
  obtain ⟨c0', c1', c2', c3'⟩ := rd_cells hs
  have hgz := rd_lt hs
  have hbd := adv_bd (l.take o) (1, 1) (by simp)
  rw [← hp] at hbd
  have htl : (l.take o).length ≤ o := List.length_take_le _ _
  simp only at hbd
  obtain ⟨bd1, bd2⟩ := hbd
  have bd3 : 1 ≤ p.2 := by rw [hp, advL_eq]; split <;> simp
  have H := Lib.hid hall
  have HS := Lib.hid hs
  have HP := Lib.hid hp
  have HO := Lib.hid hown
  have HE := Lib.hid hbe
  have HMM := Lib.hid hmm
  clear hall hs hp hown hbe hmm
  have hd := List.drop_eq_getElem_cons hlt
  have HD := Lib.hid hd
  clear hd
  have hb8 : (l[o].toNat : Int) ≤ 255 := by have := l[o].toNat_lt; omega
  have hsp' : spaceB l[o] = false := by simpa using hsp
  have q1 : ((l[o].toNat : Int) == 32) = false := byte_ne (b := 32) (fun e => by rw [e] at hsp'; exact absurd hsp' (by decide))
  have q2 : ((l[o].toNat : Int) == 10) = false := byte_ne (b := 10) (fun e => by rw [e] at hsp'; exact absurd hsp' (by decide))
  have hop' : openB (l.drop o) = false := by simpa using hop
  have r12 : ((l[o].toNat : Int) == 123) = false ∨ (((l[o].toNat : Int) == 123) = true ∧ ¬ o + 1 < l.length) ∨ (((l[o].toNat : Int) == 123) = true ∧ ∃ h2 : o + 1 < l.length, ((l[o + 1].toNat : Int) == 45) = false) := by
    by_cases e : l[o] = 123
    · by_cases h2 : o + 1 < l.length
      · refine .inr (.inr ⟨by rw [e]; rfl, h2, byte_ne (b := 45) ?_⟩)
        intro e2
        rw [HD.out, List.drop_eq_getElem_cons h2, e, e2] at hop'
        simp [openB, List.isPrefixOf] at hop'
      · exact .inr (.inl ⟨by rw [e]; rfl, h2⟩)
    · exact .inl (byte_ne e)
  have g95 : ((l[o].toNat : Int) == 95) = false := byte_ne h95
  have r1 : ((l[o].toNat : Int) == 123) = false := byte_ne (b := 123) (fun e => by rw [e] at h5; exact absurd h5 (by decide))
  have g6 : ((l[o].toNat : Int) == 34) = false := byte_ne h6
  have h5' : hasB brkL l[o] = false := h5
  have hgap : gapL (l.drop o) = some 0 := by rw [HD.out]; rw [HD.out] at hop'; exact gap_none hsp' hop' (line_zero h4)
  have hx : lx (l.drop o) p = .error ⟨p.1, p.2, 11⟩ := by
    rw [HD.out] at hgap ⊢
    have ht : tokG (l[o] :: l.drop (o + 1)) = badG 11 := by
      rw [tokG_cons, if_neg (by simp [h1, h95]), if_neg (by simp [h3]), if_neg (by simp [h4]), if_neg (by simp [h5]), if_neg (by simp [h6])]
    rw [lx_bad hgap (by rw [ht]; simp [badG]), ht]
    rfl
  have HX := Lib.hid hx
  clear hx hgap h95 h6 hsp hop hop' r12
  conv => arg 2; whnf
  go_wp2
  go_region
  go_wp2_with fail
  refine (refLetter_any _ _).mono ?_
  rintro e w' ⟨rfl, rfl⟩
  rw [h1]
  go_wp2_with fail
  refine (refDigit_any _ _).mono ?_
  rintro e w' ⟨rfl, rfl⟩
  rw [h3]
  go_wp2_with fail
  refine (refMark_any _ _).mono ?_
  rintro e w' ⟨rfl, rfl⟩
  rw [h4]
  go_wp2_with fail
  refine (refHas_any brkL _ _ (by decide)).mono ?_
  rintro e w' ⟨rfl, rfl⟩
  rw [h5']
  go_wp2_with fail
  refine (refBad_any _ (w.heap.size + 1) l o p 11 (by exact (ref_below HS.out HO.out HE.out (by exact (blw_alloc (Below.refl _ _) _).drew)).1)).mono ?_
  rintro e w3 ⟨rfl, hb3⟩
  obtain ⟨_, _, be3⟩ := ref_below HS.out HO.out HE.out (blw_trans (by exact (blw_alloc (Below.refl _ _) _).drew) hb3)
  obtain ⟨dz, d0, d1, d2, d3, e0, e1, e2, e3⟩ := diag_cells be3
  have HE3 := Lib.hid be3
  clear be3 hb3
  unfold diagV
  go_wp2
  refine bodyPost_ret (v := .tuple #[.slice none 0 0, diagV p.1 p.2 11]) (by simp [results, go_sem, diagV, d0, d1, d2, d3]) rfl ?_
  unfold ReadPost
  rw [H.out, HX.out]
  exact ⟨rfl, below_set4 (below_diag HE3.out) (Nat.le_refl _) _ _ _ _⟩
end

section
open Go.RowKit Lx
attribute [local go_sem] bt_size bt_get bt_list bt_toList bt_drop bt_take

set_option maxHeartbeats 4000000 in
set_option maxRecDepth 1000000 in
theorem cs_q1 (l : List UInt8) (w : World) (h : l.length ≤ 16384) (J : Nat → Act → World → Prop) (K K1 : Act → World → Prop) (gk : Nat) (wr : World) (c1 c14 c15 c16 c17 c18 c19 c20 c263 c264 c265 c266 c267 c268 c269 c270 c271 c272 c273 c274 c275 u2 u5 u6 u7 u8 u9 u10 u11 u12 u13 u21 u22 u23 u24 u25 u26 u27 u28 u29 u30 u31 u32 u33 u34 u35 u36 u37 u38 u39 u40 u41 u42 u43 u44 u45 u46 u47 u48 u49 u50 u51 u52 u53 u54 u55 u56 u57 u58 u59 u60 u61 u62 u63 u64 u65 u66 u67 u68 u69 u70 u71 u72 u73 u74 u75 u76 u77 u78 u79 u80 u81 u82 u83 u84 u85 u86 u87 u88 u89 u90 u91 u92 u93 u94 u95 u96 u97 u98 u99 u100 u101 u102 u103 u104 u105 u106 u107 u108 u109 u110 u111 u112 u113 u114 u115 u116 u117 u118 u119 u120 u121 u122 u123 u124 u125 u126 u127 u128 u129 u130 u131 u132 u133 u134 u135 u136 u137 u138 u139 u140 u141 u142 u143 u144 u145 u146 u147 u148 u149 u150 u151 u152 u153 u154 u155 u156 u157 u158 u159 u160 u161 u162 u163 u164 u165 u166 u167 u168 u169 u170 u171 u172 u173 u174 u175 u176 u177 u178 u179 u180 u181 u182 u183 u184 u185 u186 u187 u188 u189 u190 u191 u192 u193 u194 u195 u196 u197 u198 u199 u200 u201 u202 u203 u204 u205 u206 u207 u208 u209 u210 u211 u212 u213 u214 u215 u216 u217 u218 u219 u220 u221 u222 u223 u224 u225 u226 u227 u228 u229 u230 u231 u232 u233 u234 u235 u236 u237 u238 u239 u240 u241 u242 u243 u244 u245 u246 u247 u248 u249 u250 u251 u252 u253 u254 u255 u256 u257 u258 u259 u260 u261 u262 : Value) (o : Nat) (p : Nat × Nat) (ts : List Tk)
    (hrel : RefAt w l gk u5 wr o p ts) (hlt : o < l.length) (hsp : ¬ spaceB l[o] = true) (hop : ¬ openB (l.drop o) = true) (h1 : letB l[o] = false) (h95 : ¬ l[o] = 95) (h3 : digB l[o] = false) (h4 : symB l[o] = false) (h5 : brkB l[o] = false) (h6 : l[o] = 34) (hli : litL (l.drop o).length (l.drop (o + 1)) = none)
    (_hJ : ∀ k a' w', RI w l c1 c14 c15 c16 c17 c18 c19 c20 c263 c264 c265 c266 c267 c268 c269 c270 c271 c272 c273 c274 c275 k a' w' → J k a' w') (_hK : ∀ a' w', Handed J gk a' w' → K a' w') :
    Code.wp Try.prog refBody (Exit.then K (Exit.inBlock 0 (Exit.then K1 (bodyPost Try.prog Try.f9 (fun e w' => ReadPost w l e w'))))) ⟨#[.string (bt l), c1, u2, .pointer (some ⟨w.heap.size, 0, none⟩), .pointer (some ⟨w.heap.size + 1, 0, none⟩), u5, u6, u7, u8, u9, u10, u11, u12, u13, c14, c15, c16, c17, c18, c19, c20, u21, u22, u23, u24, u25, u26, u27, u28, u29, u30, u31, u32, u33, u34, u35, u36, u37, u38, u39, u40, u41, u42, u43, u44, u45, u46, u47, u48, u49, u50, u51, u52, u53, u54, u55, u56, u57, u58, u59, u60, u61, u62, u63, u64, u65, u66, u67, u68, u69, u70, u71, u72, u73, u74, u75, u76, u77, u78, u79, u80, u81, u82, u83, u84, u85, u86, u87, u88, u89, u90, u91, u92, u93, u94, u95, u96, u97, u98, u99, u100, u101, u102, u103, u104, u105, u106, u107, u108, u109, u110, u111, u112, u113, u114, u115, u116, u117, u118, u119, u120, u121, u122, u123, u124, u125, u126, u127, u128, u129, u130, u131, u132, u133, u134, u135, u136, u137, u138, u139, u140, u141, u142, u143, u144, u145, u146, u147, u148, u149, u150, u151, u152, u153, u154, u155, u156, u157, u158, u159, u160, u161, u162, u163, u164, u165, u166, u167, u168, u169, u170, u171, u172, u173, u174, u175, u176, u177, u178, u179, u180, u181, u182, u183, u184, u185, u186, u187, u188, u189, u190, u191, u192, u193, u194, u195, u196, u197, u198, u199, u200, u201, u202, u203, u204, u205, u206, u207, u208, u209, u210, u211, u212, u213, u214, u215, u216, u217, u218, u219, u220, u221, u222, u223, u224, u225, u226, u227, u228, u229, u230, u231, u232, u233, u234, u235, u236, u237, u238, u239, u240, u241, u242, u243, u244, u245, u246, u247, u248, u249, u250, u251, u252, u253, u254, u255, u256, u257, u258, u259, u260, u261, u262, c263, c264, c265, c266, c267, c268, c269, c270, c271, c272, c273, c274, c275], []⟩ wr := by
  obtain ⟨i0, hi, hz0, hz1, hz2⟩ := info_parts Try.infoTok
  obtain ⟨hs, hp, ho, hown, hbe, hcnt, hall, hmm⟩ := hrel
  obtain ⟨c0', c1', c2', c3'⟩ := rd_cells hs
  have hgz := rd_lt hs
  have hbd := adv_bd (l.take o) (1, 1) (by simp)
  rw [← hp] at hbd
  have htl : (l.take o).length ≤ o := List.length_take_le _ _
  simp only at hbd
  obtain ⟨bd1, bd2⟩ := hbd
  have bd3 : 1 ≤ p.2 := by rw [hp, advL_eq]; split <;> simp
  have H := Lib.hid hall
  have HS := Lib.hid hs
  have HP := Lib.hid hp
  have HO := Lib.hid hown
  have HE := Lib.hid hbe
  have HMM := Lib.hid hmm
  clear hall hs hp hown hbe hmm
  have hd := List.drop_eq_getElem_cons hlt
  have HD := Lib.hid hd
  clear hd
  have hb8 : (l[o].toNat : Int) ≤ 255 := by have := l[o].toNat_lt; omega
  have hsp' : spaceB l[o] = false := by simpa using hsp
  have q1 : ((l[o].toNat : Int) == 32) = false := byte_ne (b := 32) (fun e => by rw [e] at hsp'; exact absurd hsp' (by decide))
  have q2 : ((l[o].toNat : Int) == 10) = false := byte_ne (b := 10) (fun e => by rw [e] at hsp'; exact absurd hsp' (by decide))
  have hop' : openB (l.drop o) = false := by simpa using hop
  have r12 : ((l[o].toNat : Int) == 123) = false ∨ (((l[o].toNat : Int) == 123) = true ∧ ¬ o + 1 < l.length) ∨ (((l[o].toNat : Int) == 123) = true ∧ ∃ h2 : o + 1 < l.length, ((l[o + 1].toNat : Int) == 45) = false) := by
    by_cases e : l[o] = 123
    · by_cases h2 : o + 1 < l.length
      · refine .inr (.inr ⟨by rw [e]; rfl, h2, byte_ne (b := 45) ?_⟩)
        intro e2
        rw [HD.out, List.drop_eq_getElem_cons h2, e, e2] at hop'
        simp [openB, List.isPrefixOf] at hop'
      · exact .inr (.inl ⟨by rw [e]; rfl, h2⟩)
    · exact .inl (byte_ne e)
  have g95 : ((l[o].toNat : Int) == 95) = false := byte_ne h95
  have r1 : ((l[o].toNat : Int) == 123) = false := byte_ne (b := 123) (fun e => by rw [e] at h5; exact absurd h5 (by decide))
  have g6 : ((l[o].toNat : Int) == 34) = true := by rw [h6]; rfl
  have h5' : hasB brkL l[o] = false := h5
  have hgap : gapL (l.drop o) = some 0 := by rw [HD.out]; rw [HD.out] at hop'; exact gap_none hsp' hop' (line_zero h4)
  have ht : tokG (l[o] :: l.drop (o + 1)) = litG (l[o] :: l.drop (o + 1)) := by
    rw [tokG_cons, if_neg (by simp [h1, h95]), if_neg (by simp [h3]), if_neg (by simp [h4]), if_neg (by simp [h5]), if_pos (by simp [h6])]
  have hlg : litG (l[o] :: l.drop (o + 1)) = match litL (l.drop o).length (l.drop (o + 1)) with | none => badG 13 | some r => ⟨6, r.1, 0, r.2 + 1, 0⟩ := by
    have e : (l[o] :: l.drop (o + 1)).length = (l.drop o).length := by rw [HD.out]
    unfold litG
    rw [e]
    rfl
  rw [hli] at hlg
  simp only at hlg
  have hx : lx (l.drop o) p = .error ⟨p.1, p.2, 13⟩ := by
    rw [HD.out] at hgap ⊢
    rw [lx_bad hgap (by rw [ht, hlg]; simp [badG]), ht, hlg]
    rfl
  have HX := Lib.hid hx
  have HLi := Lib.hid hli
  clear hx hgap h95 h6 hsp hop hop' r12 ht hlg hli
  conv => arg 2; whnf
  go_wp2
  go_region
  go_wp2_with fail
  refine (refLetter_any _ _).mono ?_
  rintro e w' ⟨rfl, rfl⟩
  rw [h1]
  go_wp2_with fail
  refine (refDigit_any _ _).mono ?_
  rintro e w' ⟨rfl, rfl⟩
  rw [h3]
  go_wp2_with fail
  refine (refMark_any _ _).mono ?_
  rintro e w' ⟨rfl, rfl⟩
  rw [h4]
  go_wp2_with fail
  refine (refHas_any brkL _ _ (by decide)).mono ?_
  rintro e w' ⟨rfl, rfl⟩
  rw [h5']
  go_wp2_with fail
  refine (refText_any _ (w.heap.size + 1) l o p (by exact (ref_below HS.out HO.out HE.out (by exact (blw_alloc (Below.refl _ _) _).drew)).1) hlt h).mono ?_
  rintro e w2 ⟨rfl, hb2⟩
  rw [HLi.out]
  unfold txtR
  have hk2 : ∀ j, w2.cell? ⟨wr.heap.size, j, none⟩ = _ := fun j => hb2.cell (p := ⟨wr.heap.size, j, none⟩) (by simp)
  have hf2 : ∀ j, w2.frozen? ⟨wr.heap.size, j, none⟩ = _ := fun j => hb2.frozen (p := ⟨wr.heap.size, j, none⟩) (by simp)
  have hz2' : wr.heap.size < w2.heap.size := by have := hb2.size; simp at this; omega
  have hB2 := Lib.hid (blw_trans (by exact (blw_alloc (Below.refl wr.heap.size wr) _).drew) hb2)
  clear hb2
  go_wp2_with fail
  refine (refBad_any _ (w.heap.size + 1) l o p 13 (by exact (ref_below HS.out HO.out HE.out (by exact (blw_set (hB2.out) _ _))).1)).mono ?_
  rintro e w3 ⟨rfl, hb3⟩
  obtain ⟨_, _, be3⟩ := ref_below HS.out HO.out HE.out (blw_trans (by exact (blw_set (hB2.out) _ _)) hb3)
  obtain ⟨dz, d0, d1, d2, d3, e0, e1, e2, e3⟩ := diag_cells be3
  have HE3 := Lib.hid be3
  clear be3 hb3
  unfold diagV
  go_wp2
  refine bodyPost_ret (v := .tuple #[.slice none 0 0, diagV p.1 p.2 13]) (by simp [results, go_sem, diagV, d0, d1, d2, d3]) rfl ?_
  unfold ReadPost
  rw [H.out, HX.out]
  exact ⟨rfl, below_set4 (below_diag HE3.out) (Nat.le_refl _) _ _ _ _⟩
end

section
open Go.RowKit Lx
attribute [local go_sem] bt_size bt_get bt_list bt_toList bt_drop bt_take

set_option maxHeartbeats 4000000 in
set_option maxRecDepth 1000000 in
theorem cs_q2 (l : List UInt8) (w : World) (h : l.length ≤ 16384) (J : Nat → Act → World → Prop) (K K1 : Act → World → Prop) (gk : Nat) (wr : World) (c1 c14 c15 c16 c17 c18 c19 c20 c263 c264 c265 c266 c267 c268 c269 c270 c271 c272 c273 c274 c275 u2 u5 u6 u7 u8 u9 u10 u11 u12 u13 u21 u22 u23 u24 u25 u26 u27 u28 u29 u30 u31 u32 u33 u34 u35 u36 u37 u38 u39 u40 u41 u42 u43 u44 u45 u46 u47 u48 u49 u50 u51 u52 u53 u54 u55 u56 u57 u58 u59 u60 u61 u62 u63 u64 u65 u66 u67 u68 u69 u70 u71 u72 u73 u74 u75 u76 u77 u78 u79 u80 u81 u82 u83 u84 u85 u86 u87 u88 u89 u90 u91 u92 u93 u94 u95 u96 u97 u98 u99 u100 u101 u102 u103 u104 u105 u106 u107 u108 u109 u110 u111 u112 u113 u114 u115 u116 u117 u118 u119 u120 u121 u122 u123 u124 u125 u126 u127 u128 u129 u130 u131 u132 u133 u134 u135 u136 u137 u138 u139 u140 u141 u142 u143 u144 u145 u146 u147 u148 u149 u150 u151 u152 u153 u154 u155 u156 u157 u158 u159 u160 u161 u162 u163 u164 u165 u166 u167 u168 u169 u170 u171 u172 u173 u174 u175 u176 u177 u178 u179 u180 u181 u182 u183 u184 u185 u186 u187 u188 u189 u190 u191 u192 u193 u194 u195 u196 u197 u198 u199 u200 u201 u202 u203 u204 u205 u206 u207 u208 u209 u210 u211 u212 u213 u214 u215 u216 u217 u218 u219 u220 u221 u222 u223 u224 u225 u226 u227 u228 u229 u230 u231 u232 u233 u234 u235 u236 u237 u238 u239 u240 u241 u242 u243 u244 u245 u246 u247 u248 u249 u250 u251 u252 u253 u254 u255 u256 u257 u258 u259 u260 u261 u262 : Value) (o : Nat) (p : Nat × Nat) (ts : List Tk)
    (hrel : RefAt w l gk u5 wr o p ts) (hlt : o < l.length) (hsp : ¬ spaceB l[o] = true) (hop : ¬ openB (l.drop o) = true) (h1 : letB l[o] = false) (h95 : ¬ l[o] = 95) (h3 : digB l[o] = false) (h4 : symB l[o] = false) (h5 : brkB l[o] = false) (h6 : l[o] = 34) (r : List UInt8 × Nat) (hli : litL (l.drop o).length (l.drop (o + 1)) = some r)
    (hJ : ∀ k a' w', RI w l c1 c14 c15 c16 c17 c18 c19 c20 c263 c264 c265 c266 c267 c268 c269 c270 c271 c272 c273 c274 c275 k a' w' → J k a' w') (hK : ∀ a' w', Handed J gk a' w' → K a' w') :
    Code.wp Try.prog refBody (Exit.then K (Exit.inBlock 0 (Exit.then K1 (bodyPost Try.prog Try.f9 (fun e w' => ReadPost w l e w'))))) ⟨#[.string (bt l), c1, u2, .pointer (some ⟨w.heap.size, 0, none⟩), .pointer (some ⟨w.heap.size + 1, 0, none⟩), u5, u6, u7, u8, u9, u10, u11, u12, u13, c14, c15, c16, c17, c18, c19, c20, u21, u22, u23, u24, u25, u26, u27, u28, u29, u30, u31, u32, u33, u34, u35, u36, u37, u38, u39, u40, u41, u42, u43, u44, u45, u46, u47, u48, u49, u50, u51, u52, u53, u54, u55, u56, u57, u58, u59, u60, u61, u62, u63, u64, u65, u66, u67, u68, u69, u70, u71, u72, u73, u74, u75, u76, u77, u78, u79, u80, u81, u82, u83, u84, u85, u86, u87, u88, u89, u90, u91, u92, u93, u94, u95, u96, u97, u98, u99, u100, u101, u102, u103, u104, u105, u106, u107, u108, u109, u110, u111, u112, u113, u114, u115, u116, u117, u118, u119, u120, u121, u122, u123, u124, u125, u126, u127, u128, u129, u130, u131, u132, u133, u134, u135, u136, u137, u138, u139, u140, u141, u142, u143, u144, u145, u146, u147, u148, u149, u150, u151, u152, u153, u154, u155, u156, u157, u158, u159, u160, u161, u162, u163, u164, u165, u166, u167, u168, u169, u170, u171, u172, u173, u174, u175, u176, u177, u178, u179, u180, u181, u182, u183, u184, u185, u186, u187, u188, u189, u190, u191, u192, u193, u194, u195, u196, u197, u198, u199, u200, u201, u202, u203, u204, u205, u206, u207, u208, u209, u210, u211, u212, u213, u214, u215, u216, u217, u218, u219, u220, u221, u222, u223, u224, u225, u226, u227, u228, u229, u230, u231, u232, u233, u234, u235, u236, u237, u238, u239, u240, u241, u242, u243, u244, u245, u246, u247, u248, u249, u250, u251, u252, u253, u254, u255, u256, u257, u258, u259, u260, u261, u262, c263, c264, c265, c266, c267, c268, c269, c270, c271, c272, c273, c274, c275], []⟩ wr := by
  obtain ⟨i0, hi, hz0, hz1, hz2⟩ := info_parts Try.infoTok
  obtain ⟨hs, hp, ho, hown, hbe, hcnt, hall, hmm⟩ := hrel
  obtain ⟨c0', c1', c2', c3'⟩ := rd_cells hs
  have hgz := rd_lt hs
  have hbd := adv_bd (l.take o) (1, 1) (by simp)
  rw [← hp] at hbd
  have htl : (l.take o).length ≤ o := List.length_take_le _ _
  simp only at hbd
  obtain ⟨bd1, bd2⟩ := hbd
  have bd3 : 1 ≤ p.2 := by rw [hp, advL_eq]; split <;> simp
  have H := Lib.hid hall
  have HS := Lib.hid hs
  have HP := Lib.hid hp
  have HO := Lib.hid hown
  have HE := Lib.hid hbe
  have HMM := Lib.hid hmm
  clear hall hs hp hown hbe hmm
  have hd := List.drop_eq_getElem_cons hlt
  have HD := Lib.hid hd
  clear hd
  have hb8 : (l[o].toNat : Int) ≤ 255 := by have := l[o].toNat_lt; omega
  have hsp' : spaceB l[o] = false := by simpa using hsp
  have q1 : ((l[o].toNat : Int) == 32) = false := byte_ne (b := 32) (fun e => by rw [e] at hsp'; exact absurd hsp' (by decide))
  have q2 : ((l[o].toNat : Int) == 10) = false := byte_ne (b := 10) (fun e => by rw [e] at hsp'; exact absurd hsp' (by decide))
  have hop' : openB (l.drop o) = false := by simpa using hop
  have r12 : ((l[o].toNat : Int) == 123) = false ∨ (((l[o].toNat : Int) == 123) = true ∧ ¬ o + 1 < l.length) ∨ (((l[o].toNat : Int) == 123) = true ∧ ∃ h2 : o + 1 < l.length, ((l[o + 1].toNat : Int) == 45) = false) := by
    by_cases e : l[o] = 123
    · by_cases h2 : o + 1 < l.length
      · refine .inr (.inr ⟨by rw [e]; rfl, h2, byte_ne (b := 45) ?_⟩)
        intro e2
        rw [HD.out, List.drop_eq_getElem_cons h2, e, e2] at hop'
        simp [openB, List.isPrefixOf] at hop'
      · exact .inr (.inl ⟨by rw [e]; rfl, h2⟩)
    · exact .inl (byte_ne e)
  have g95 : ((l[o].toNat : Int) == 95) = false := byte_ne h95
  have r1 : ((l[o].toNat : Int) == 123) = false := byte_ne (b := 123) (fun e => by rw [e] at h5; exact absurd h5 (by decide))
  have g6 : ((l[o].toNat : Int) == 34) = true := by rw [h6]; rfl
  have h5' : hasB brkL l[o] = false := h5
  have hgap : gapL (l.drop o) = some 0 := by rw [HD.out]; rw [HD.out] at hop'; exact gap_none hsp' hop' (line_zero h4)
  have ht : tokG (l[o] :: l.drop (o + 1)) = litG (l[o] :: l.drop (o + 1)) := by
    rw [tokG_cons, if_neg (by simp [h1, h95]), if_neg (by simp [h3]), if_neg (by simp [h4]), if_neg (by simp [h5]), if_pos (by simp [h6])]
  have hlg : litG (l[o] :: l.drop (o + 1)) = match litL (l.drop o).length (l.drop (o + 1)) with | none => badG 13 | some r => ⟨6, r.1, 0, r.2 + 1, 0⟩ := by
    have e : (l[o] :: l.drop (o + 1)).length = (l.drop o).length := by rw [HD.out]
    unfold litG
    rw [e]
    rfl
  rw [hli] at hlg
  simp only at hlg
  have hrl := lit_le _ _ _ hli
  have hrl2 : o + (r.2 + 1) ≤ l.length := by simp at hrl; omega
  have hx : lx (l.drop o) p = (lx ((l.drop o).drop (r.2 + 1)) (advL p ((l.drop o).take (r.2 + 1)))).map ((⟨6, r.1, 0, p.1, p.2⟩ : Tk) :: ·) := by
    rw [HD.out] at hgap ⊢
    rw [lx_tok hgap (by rw [ht, hlg]), ht, hlg]
  have HX := Lib.hid hx
  have HLi := Lib.hid hli
  clear hx hgap h95 h6 hsp hop hop' r12 ht hlg hli hrl
  conv => arg 2; whnf
  go_wp2
  go_region
  go_wp2_with fail
  refine (refLetter_any _ _).mono ?_
  rintro e w' ⟨rfl, rfl⟩
  rw [h1]
  go_wp2_with fail
  refine (refDigit_any _ _).mono ?_
  rintro e w' ⟨rfl, rfl⟩
  rw [h3]
  go_wp2_with fail
  refine (refMark_any _ _).mono ?_
  rintro e w' ⟨rfl, rfl⟩
  rw [h4]
  go_wp2_with fail
  refine (refHas_any brkL _ _ (by decide)).mono ?_
  rintro e w' ⟨rfl, rfl⟩
  rw [h5']
  go_wp2_with fail
  refine (refText_any _ (w.heap.size + 1) l o p (by exact (ref_below HS.out HO.out HE.out (by exact (blw_alloc (Below.refl _ _) _).drew)).1) hlt h).mono ?_
  rintro e w2 ⟨rfl, hb2⟩
  rw [HLi.out]
  unfold txtR
  simp only
  have hk2 : ∀ j, w2.cell? ⟨wr.heap.size, j, none⟩ = _ := fun j => hb2.cell (p := ⟨wr.heap.size, j, none⟩) (by simp)
  have hf2 : ∀ j, w2.frozen? ⟨wr.heap.size, j, none⟩ = _ := fun j => hb2.frozen (p := ⟨wr.heap.size, j, none⟩) (by simp)
  have hz2' : wr.heap.size < w2.heap.size := by have := hb2.size; simp at this; omega
  have hB2 := Lib.hid (blw_trans (by exact (blw_alloc (Below.refl wr.heap.size wr) _).drew) hb2)
  clear hb2
  go_wp2_with fail
  refine (refOn_any _ (w.heap.size + 1) l o p (r.2 + 1) (by exact (ref_below HS.out HO.out HE.out (by exact (blw_set (hB2.out) _ _))).1) (by omega) h (by omega) (by omega) bd3).mono ?_
  rintro e w5 ⟨rfl, hrd, hgr⟩
  have hk5 : ∀ j, w5.cell? ⟨wr.heap.size, j, none⟩ = _ := fun j => World.cell?_of_block (a := ⟨wr.heap.size, j, none⟩) (hgr.block _ (by show wr.heap.size < _; first | (simp; done) | omega | (simp; omega)) (ne_blk hgz))
  have hz5 := hgr.size
  have HRD := Lib.hid hrd
  have HGR := Lib.hid hgr
  obtain ⟨o5, b5⟩ := read_keep (ref_below HS.out HO.out HE.out (by exact (blw_set (hB2.out) _ _))).2.1 (ref_below HS.out HO.out HE.out (by exact (blw_set (hB2.out) _ _))).2.2 hgr
  have HO5 := Lib.hid o5
  have hz5' := rd_lt hrd
  clear hrd hgr o5 b5
  go_wp2_with (at_builtin; refine wpList_append_own _ rfl _ _ 22 rfl (w.heap.size + 2) 33 i0 _ 5 48 Try.underToks hi hz0 hz1 hz2 rfl (by decide) _ _ _ rfl (HO5.out.alloc _) ⟨w5.heap.size, 0, none⟩ 1 1 (tokCells ⟨6, r.1, 0, p.1, p.2⟩) rfl rfl (tok_at w5 ⟨6, r.1, 0, p.1, p.2⟩ _ _ rfl) (tok_one _) (by simp [maxLen]; omega) (by omega) (by simp; omega) ?_; intro v' w6 hown' hgrow _)
  have R := Lib.hid (ref_tok HS.out HP.out HO.out HE.out (by exact (blw_set (hB2.out) _ _)) HRD.out HGR.out (by omega) (by omega) hcnt H.out HX.out hgrow hown')
  clear hown' hgrow hk5
  go_wp2
  refine Handed.intro (l.length - o) HMM.out ?_
  refine hJ _ _ _ ?_
  unfold RI
  (repeat apply Exists.intro)
  exact ⟨R.out, rfl⟩
end

section
open Go.RowKit Lx
attribute [local go_sem] bt_size bt_get bt_list bt_toList bt_drop bt_take

set_option maxHeartbeats 4000000 in
set_option maxRecDepth 1000000 in
theorem cs_b1 (l : List UInt8) (w : World) (h : l.length ≤ 16384) (J : Nat → Act → World → Prop) (K K1 : Act → World → Prop) (gk : Nat) (wr : World) (c1 c14 c15 c16 c17 c18 c19 c20 c263 c264 c265 c266 c267 c268 c269 c270 c271 c272 c273 c274 c275 u2 u5 u6 u7 u8 u9 u10 u11 u12 u13 u21 u22 u23 u24 u25 u26 u27 u28 u29 u30 u31 u32 u33 u34 u35 u36 u37 u38 u39 u40 u41 u42 u43 u44 u45 u46 u47 u48 u49 u50 u51 u52 u53 u54 u55 u56 u57 u58 u59 u60 u61 u62 u63 u64 u65 u66 u67 u68 u69 u70 u71 u72 u73 u74 u75 u76 u77 u78 u79 u80 u81 u82 u83 u84 u85 u86 u87 u88 u89 u90 u91 u92 u93 u94 u95 u96 u97 u98 u99 u100 u101 u102 u103 u104 u105 u106 u107 u108 u109 u110 u111 u112 u113 u114 u115 u116 u117 u118 u119 u120 u121 u122 u123 u124 u125 u126 u127 u128 u129 u130 u131 u132 u133 u134 u135 u136 u137 u138 u139 u140 u141 u142 u143 u144 u145 u146 u147 u148 u149 u150 u151 u152 u153 u154 u155 u156 u157 u158 u159 u160 u161 u162 u163 u164 u165 u166 u167 u168 u169 u170 u171 u172 u173 u174 u175 u176 u177 u178 u179 u180 u181 u182 u183 u184 u185 u186 u187 u188 u189 u190 u191 u192 u193 u194 u195 u196 u197 u198 u199 u200 u201 u202 u203 u204 u205 u206 u207 u208 u209 u210 u211 u212 u213 u214 u215 u216 u217 u218 u219 u220 u221 u222 u223 u224 u225 u226 u227 u228 u229 u230 u231 u232 u233 u234 u235 u236 u237 u238 u239 u240 u241 u242 u243 u244 u245 u246 u247 u248 u249 u250 u251 u252 u253 u254 u255 u256 u257 u258 u259 u260 u261 u262 : Value) (o : Nat) (p : Nat × Nat) (ts : List Tk)
    (hrel : RefAt w l gk u5 wr o p ts) (hlt : o < l.length) (hsp : ¬ spaceB l[o] = true) (hop : ¬ openB (l.drop o) = true) (h1 : letB l[o] = false) (h95 : ¬ l[o] = 95) (h3 : digB l[o] = false) (h4 : symB l[o] = false) (h5 : brkB l[o] = true) (r1 : ((l[o].toNat : Int) == 123) = false)
    (hJ : ∀ k a' w', RI w l c1 c14 c15 c16 c17 c18 c19 c20 c263 c264 c265 c266 c267 c268 c269 c270 c271 c272 c273 c274 c275 k a' w' → J k a' w') (hK : ∀ a' w', Handed J gk a' w' → K a' w') :
    Code.wp Try.prog refBody (Exit.then K (Exit.inBlock 0 (Exit.then K1 (bodyPost Try.prog Try.f9 (fun e w' => ReadPost w l e w'))))) ⟨#[.string (bt l), c1, u2, .pointer (some ⟨w.heap.size, 0, none⟩), .pointer (some ⟨w.heap.size + 1, 0, none⟩), u5, u6, u7, u8, u9, u10, u11, u12, u13, c14, c15, c16, c17, c18, c19, c20, u21, u22, u23, u24, u25, u26, u27, u28, u29, u30, u31, u32, u33, u34, u35, u36, u37, u38, u39, u40, u41, u42, u43, u44, u45, u46, u47, u48, u49, u50, u51, u52, u53, u54, u55, u56, u57, u58, u59, u60, u61, u62, u63, u64, u65, u66, u67, u68, u69, u70, u71, u72, u73, u74, u75, u76, u77, u78, u79, u80, u81, u82, u83, u84, u85, u86, u87, u88, u89, u90, u91, u92, u93, u94, u95, u96, u97, u98, u99, u100, u101, u102, u103, u104, u105, u106, u107, u108, u109, u110, u111, u112, u113, u114, u115, u116, u117, u118, u119, u120, u121, u122, u123, u124, u125, u126, u127, u128, u129, u130, u131, u132, u133, u134, u135, u136, u137, u138, u139, u140, u141, u142, u143, u144, u145, u146, u147, u148, u149, u150, u151, u152, u153, u154, u155, u156, u157, u158, u159, u160, u161, u162, u163, u164, u165, u166, u167, u168, u169, u170, u171, u172, u173, u174, u175, u176, u177, u178, u179, u180, u181, u182, u183, u184, u185, u186, u187, u188, u189, u190, u191, u192, u193, u194, u195, u196, u197, u198, u199, u200, u201, u202, u203, u204, u205, u206, u207, u208, u209, u210, u211, u212, u213, u214, u215, u216, u217, u218, u219, u220, u221, u222, u223, u224, u225, u226, u227, u228, u229, u230, u231, u232, u233, u234, u235, u236, u237, u238, u239, u240, u241, u242, u243, u244, u245, u246, u247, u248, u249, u250, u251, u252, u253, u254, u255, u256, u257, u258, u259, u260, u261, u262, c263, c264, c265, c266, c267, c268, c269, c270, c271, c272, c273, c274, c275], []⟩ wr := by
  obtain ⟨i0, hi, hz0, hz1, hz2⟩ := info_parts Try.infoTok
  obtain ⟨hs, hp, ho, hown, hbe, hcnt, hall, hmm⟩ := hrel
  obtain ⟨c0', c1', c2', c3'⟩ := rd_cells hs
  have hgz := rd_lt hs
  have hbd := adv_bd (l.take o) (1, 1) (by simp)
  rw [← hp] at hbd
  have htl : (l.take o).length ≤ o := List.length_take_le _ _
  simp only at hbd
  obtain ⟨bd1, bd2⟩ := hbd
  have bd3 : 1 ≤ p.2 := by rw [hp, advL_eq]; split <;> simp
  have H := Lib.hid hall
  have HS := Lib.hid hs
  have HP := Lib.hid hp
  have HO := Lib.hid hown
  have HE := Lib.hid hbe
  have HMM := Lib.hid hmm
  clear hall hs hp hown hbe hmm
  have hd := List.drop_eq_getElem_cons hlt
  have HD := Lib.hid hd
  clear hd
  have hb8 : (l[o].toNat : Int) ≤ 255 := by have := l[o].toNat_lt; omega
  have hsp' : spaceB l[o] = false := by simpa using hsp
  have q1 : ((l[o].toNat : Int) == 32) = false := byte_ne (b := 32) (fun e => by rw [e] at hsp'; exact absurd hsp' (by decide))
  have q2 : ((l[o].toNat : Int) == 10) = false := byte_ne (b := 10) (fun e => by rw [e] at hsp'; exact absurd hsp' (by decide))
  have hop' : openB (l.drop o) = false := by simpa using hop
  have g95 : ((l[o].toNat : Int) == 95) = false := byte_ne h95
  have h5' : hasB brkL l[o] = true := h5
  have hgap : gapL (l.drop o) = some 0 := by rw [HD.out]; rw [HD.out] at hop'; exact gap_none hsp' hop' (line_zero h4)
  have ht : tokG (l[o] :: l.drop (o + 1)) = speltG 8 [l[o]] := by
    rw [tokG_cons, if_neg (by simp [h1, h95]), if_neg (by simp [h3]), if_neg (by simp [h4]), if_pos h5]
  have hx : lx (l.drop o) p = (lx ((l.drop o).drop 1) (advL p ((l.drop o).take 1))).map ((⟨8, [l[o]], 0, p.1, p.2⟩ : Tk) :: ·) := by
    rw [HD.out] at hgap ⊢
    rw [lx_tok hgap (by rw [ht]; rfl), ht]
    rfl
  have hex : (bt l).extract o (o + 1) = bt [l[o]] := by
    rw [bt_extract, show o + 1 - o = 1 from by omega, HD.out]
    rfl
  have HX := Lib.hid hx
  have g95' := g95
  clear hx hgap h95 hsp hop hop' ht
  have i1 : (o : Int) + 1 ≤ (l.length : Int) := by omega
  conv => arg 2; whnf
  go_wp2
  go_region
  go_wp2_with fail
  refine (refLetter_any _ _).mono ?_
  rintro e w' ⟨rfl, rfl⟩
  rw [h1]
  go_wp2_with fail
  refine (refDigit_any _ _).mono ?_
  rintro e w' ⟨rfl, rfl⟩
  rw [h3]
  go_wp2_with fail
  refine (refMark_any _ _).mono ?_
  rintro e w' ⟨rfl, rfl⟩
  rw [h4]
  go_wp2_with fail
  refine (refHas_any brkL _ _ (by decide)).mono ?_
  rintro e w' ⟨rfl, rfl⟩
  rw [h5']
  go_wp2
  go_region
  go_wp2_with fail
  refine (refOn_any _ (w.heap.size + 1) l o p (1) (by exact (ref_below HS.out HO.out HE.out (by exact (blw_alloc (Below.refl _ _) _).drew.drew)).1) (by omega) h (by omega) (by omega) bd3).mono ?_
  rintro e w5 ⟨rfl, hrd, hgr⟩
  have hk5 : ∀ j, w5.cell? ⟨wr.heap.size, j, none⟩ = _ := fun j => World.cell?_of_block (a := ⟨wr.heap.size, j, none⟩) (hgr.block _ (by show wr.heap.size < _; first | (simp; done) | omega | (simp; omega)) (ne_blk hgz))
  have hz5 := hgr.size
  have HRD := Lib.hid hrd
  have HGR := Lib.hid hgr
  obtain ⟨o5, b5⟩ := read_keep (ref_below HS.out HO.out HE.out (by exact (blw_alloc (Below.refl _ _) _).drew.drew)).2.1 (ref_below HS.out HO.out HE.out (by exact (blw_alloc (Below.refl _ _) _).drew.drew)).2.2 hgr
  have HO5 := Lib.hid o5
  have hz5' := rd_lt hrd
  clear hrd hgr o5 b5
  go_wp2_with (at_builtin; refine wpList_append_own _ rfl _ _ 22 rfl (w.heap.size + 2) 33 i0 _ 5 48 Try.underToks hi hz0 hz1 hz2 rfl (by decide) _ _ _ rfl (HO5.out.alloc _) ⟨w5.heap.size, 0, none⟩ 1 1 (tokCells ⟨8, [l[o]], 0, p.1, p.2⟩) rfl rfl (tok_at w5 ⟨8, [l[o]], 0, p.1, p.2⟩ _ _ rfl) (tok_one _) (by simp [maxLen]; omega) (by omega) (by simp; omega) ?_; intro v' w6 hown' hgrow _)
  have R := Lib.hid (ref_tok HS.out HP.out HO.out HE.out (by exact (blw_alloc (Below.refl _ _) _).drew.drew) HRD.out HGR.out (by omega) (by omega) hcnt H.out HX.out hgrow hown')
  clear hown' hgrow hk5
  go_wp2
  refine Handed.intro (l.length - o) HMM.out ?_
  refine hJ _ _ _ ?_
  unfold RI
  (repeat apply Exists.intro)
  exact ⟨R.out, rfl⟩
end
end Go.Proofs.Ytbjbmehkcfpahaa
