/- One way through a round of the reference's loop: a word with a small letter. No condition but the length that every string keeps. -/
import Derived.Test.YtbjbmehkcfpahaaRefLaws
namespace Go.Proofs.Ytbjbmehkcfpahaa
section
open Go.RowKit Lx
attribute [local go_sem] bt_size bt_get bt_list bt_toList bt_drop bt_take

set_option maxHeartbeats 4000000 in
set_option maxRecDepth 1000000 in
theorem cs_w1b (l : List UInt8) (w : World) (h : l.length ≤ 16384) (J : Nat → Act → World → Prop) (K K1 : Act → World → Prop) (gk : Nat) (wr : World) (c1 c14 c15 c16 c17 c18 c19 c20 c263 c264 c265 c266 c267 c268 c269 c270 c271 c272 c273 c274 c275 u2 u5 u6 u7 u8 u9 u10 u11 u12 u13 u21 u22 u23 u24 u25 u26 u27 u28 u29 u30 u31 u32 u33 u34 u35 u36 u37 u38 u39 u40 u41 u42 u43 u44 u45 u46 u47 u48 u49 u50 u51 u52 u53 u54 u55 u56 u57 u58 u59 u60 u61 u62 u63 u64 u65 u66 u67 u68 u69 u70 u71 u72 u73 u74 u75 u76 u77 u78 u79 u80 u81 u82 u83 u84 u85 u86 u87 u88 u89 u90 u91 u92 u93 u94 u95 u96 u97 u98 u99 u100 u101 u102 u103 u104 u105 u106 u107 u108 u109 u110 u111 u112 u113 u114 u115 u116 u117 u118 u119 u120 u121 u122 u123 u124 u125 u126 u127 u128 u129 u130 u131 u132 u133 u134 u135 u136 u137 u138 u139 u140 u141 u142 u143 u144 u145 u146 u147 u148 u149 u150 u151 u152 u153 u154 u155 u156 u157 u158 u159 u160 u161 u162 u163 u164 u165 u166 u167 u168 u169 u170 u171 u172 u173 u174 u175 u176 u177 u178 u179 u180 u181 u182 u183 u184 u185 u186 u187 u188 u189 u190 u191 u192 u193 u194 u195 u196 u197 u198 u199 u200 u201 u202 u203 u204 u205 u206 u207 u208 u209 u210 u211 u212 u213 u214 u215 u216 u217 u218 u219 u220 u221 u222 u223 u224 u225 u226 u227 u228 u229 u230 u231 u232 u233 u234 u235 u236 u237 u238 u239 u240 u241 u242 u243 u244 u245 u246 u247 u248 u249 u250 u251 u252 u253 u254 u255 u256 u257 u258 u259 u260 u261 u262 : Value) (o : Nat) (p : Nat × Nat) (ts : List Tk)
    (hrel : RefAt w l gk u5 wr o p ts) (hlt : o < l.length) (hsp : ¬ spaceB l[o] = true) (hop : ¬ openB (l.drop o) = true) (h1 : letB l[o] = true) (hon0 : oneB wordsL ((l.drop o).takeWhile wordB) = false) (h950 : (((l.drop o).takeWhile wordB) == [95]) = false) (hcap : capB l[o] = false) (cp1 : (65 : Int) ≤ (l[o].toNat : Int)) (cp2 : ¬ (l[o].toNat : Int) ≤ 90)
    (hJ : ∀ k a' w', RI w l c1 c14 c15 c16 c17 c18 c19 c20 c263 c264 c265 c266 c267 c268 c269 c270 c271 c272 c273 c274 c275 k a' w' → J k a' w') (hK : ∀ a' w', Handed J gk a' w' → K a' w') :
    Code.wp Try.prog refBody (Exit.then K (Exit.inBlock 0 (Exit.then K1 (bodyPost Try.prog Try.f9 (fun e w' => ReadPost w l e w'))))) ⟨#[.string (bt l), c1, u2, .pointer (some ⟨w.heap.size, 0, none⟩), .pointer (some ⟨w.heap.size + 1, 0, none⟩), u5, u6, u7, u8, u9, u10, u11, u12, u13, c14, c15, c16, c17, c18, c19, c20, u21, u22, u23, u24, u25, u26, u27, u28, u29, u30, u31, u32, u33, u34, u35, u36, u37, u38, u39, u40, u41, u42, u43, u44, u45, u46, u47, u48, u49, u50, u51, u52, u53, u54, u55, u56, u57, u58, u59, u60, u61, u62, u63, u64, u65, u66, u67, u68, u69, u70, u71, u72, u73, u74, u75, u76, u77, u78, u79, u80, u81, u82, u83, u84, u85, u86, u87, u88, u89, u90, u91, u92, u93, u94, u95, u96, u97, u98, u99, u100, u101, u102, u103, u104, u105, u106, u107, u108, u109, u110, u111, u112, u113, u114, u115, u116, u117, u118, u119, u120, u121, u122, u123, u124, u125, u126, u127, u128, u129, u130, u131, u132, u133, u134, u135, u136, u137, u138, u139, u140, u141, u142, u143, u144, u145, u146, u147, u148, u149, u150, u151, u152, u153, u154, u155, u156, u157, u158, u159, u160, u161, u162, u163, u164, u165, u166, u167, u168, u169, u170, u171, u172, u173, u174, u175, u176, u177, u178, u179, u180, u181, u182, u183, u184, u185, u186, u187, u188, u189, u190, u191, u192, u193, u194, u195, u196, u197, u198, u199, u200, u201, u202, u203, u204, u205, u206, u207, u208, u209, u210, u211, u212, u213, u214, u215, u216, u217, u218, u219, u220, u221, u222, u223, u224, u225, u226, u227, u228, u229, u230, u231, u232, u233, u234, u235, u236, u237, u238, u239, u240, u241, u242, u243, u244, u245, u246, u247, u248, u249, u250, u251, u252, u253, u254, u255, u256, u257, u258, u259, u260, u261, u262, c263, c264, c265, c266, c267, c268, c269, c270, c271, c272, c273, c274, c275], []⟩ wr := by
  obtain ⟨i0, hi, hz0, hz1, hz2⟩ := info_parts Try.infoTok
  obtain ⟨hs, hp, ho, hown, hbe, hcnt, hall, hmm⟩ := hrel
  obtain ⟨c0', c1', c2', c3'⟩ := rd_cells hs
  have hgz := rd_lt hs
  have hbd := adv_bd (l.take o) (1, 1) (by simp)
  rw [← hp] at hbd
  have htl : (l.take o).length ≤ o := List.length_take_le _ _
  simp only at hbd
  obtain ⟨bd1, bd2⟩ := hbd
  have bd3 : 1 ≤ p.2 := by rw [hp, advL_eq]; split <;> simp
  have H := Lib.hid hall
  have HS := Lib.hid hs
  have HP := Lib.hid hp
  have HO := Lib.hid hown
  have HE := Lib.hid hbe
  have HMM := Lib.hid hmm
  clear hall hs hp hown hbe hmm
  have hd := List.drop_eq_getElem_cons hlt
  have HD := Lib.hid hd
  clear hd
  have hb8 : (l[o].toNat : Int) ≤ 255 := by have := l[o].toNat_lt; omega
  have hon0_H := Lib.hid hon0
  clear hon0
  have h950_H := Lib.hid h950
  clear h950
  have hcap_H := Lib.hid hcap
  clear hcap
  have hsp' : spaceB l[o] = false := by simpa using hsp
  have q1 : ((l[o].toNat : Int) == 32) = false := byte_ne (b := 32) (fun e => by rw [e] at hsp'; exact absurd hsp' (by decide))
  have q2 : ((l[o].toNat : Int) == 10) = false := byte_ne (b := 10) (fun e => by rw [e] at hsp'; exact absurd hsp' (by decide))
  have hop' : openB (l.drop o) = false := by simpa using hop
  have r12 : ((l[o].toNat : Int) == 123) = false ∨ (((l[o].toNat : Int) == 123) = true ∧ ¬ o + 1 < l.length) ∨ (((l[o].toNat : Int) == 123) = true ∧ ∃ h2 : o + 1 < l.length, ((l[o + 1].toNat : Int) == 45) = false) := by
    by_cases e : l[o] = 123
    · by_cases h2 : o + 1 < l.length
      · refine .inr (.inr ⟨by rw [e]; rfl, h2, byte_ne (b := 45) ?_⟩)
        intro e2
        rw [HD.out, List.drop_eq_getElem_cons h2, e, e2] at hop'
        simp [openB, List.isPrefixOf] at hop'
      · exact .inr (.inl ⟨by rw [e]; rfl, h2⟩)
    · exact .inl (byte_ne e)
  have hw0 : wordB l[o] = true := by simp [wordB, h1]
  have r1 : ((l[o].toNat : Int) == 123) = false := byte_ne (b := 123) (fun e => by rw [e] at hw0; exact absurd hw0 (by decide))
  have hsy : symB l[o] = false := word_sym hw0
  have hgap : gapL (l.drop o) = some 0 := by rw [HD.out]; rw [HD.out] at hop'; exact gap_none hsp' hop' (line_zero hsy)
  obtain ⟨txt, htx⟩ : ∃ txt, txt = (l.drop o).takeWhile wordB := ⟨_, rfl⟩
  have ht : tokG (l[o] :: l.drop (o + 1)) = speltG (wordKindL txt) txt := by
    rw [tokG_cons, if_pos (by simp [h1]), htx, HD.out]
  have hn1 : 1 ≤ txt.length := by rw [htx, HD.out, tw_cons hw0]; simp
  have hn2 : o + txt.length ≤ l.length := by
    rw [htx]
    have := takeWhile_len wordB (l.drop o)
    simp at this
    omega
  have hx : lx (l.drop o) p = (lx ((l.drop o).drop txt.length) (advL p ((l.drop o).take txt.length))).map ((⟨wordKindL txt, txt, 0, p.1, p.2⟩ : Tk) :: ·) := by
    rw [HD.out] at hgap ⊢
    rw [lx_tok hgap (by rw [ht]; rfl), ht]
    rfl
  have hex : (bt l).extract o (o + txt.length) = bt txt := by
    rw [bt_extract, show o + txt.length - o = txt.length from by omega, htx, ← tw_take2]
  have hhd : txt.headD 0 = l[o] := by rw [htx, HD.out, tw_cons hw0]; rfl
  have HX := Lib.hid hx
  have HTx := Lib.hid htx
  have HHd := Lib.hid hhd
  clear hx hgap hsp hop hop' r12 ht htx hhd hsy
  have i1 : (o : Int) + (txt.length : Int) ≤ (l.length : Int) := by omega
  have i2 : (o : Int) ≤ (o : Int) + (txt.length : Int) := by omega
  conv => arg 2; whnf
  go_wp2
  go_region
  go_wp2_with fail
  refine (refLetter_any _ _).mono ?_
  rintro e w' ⟨rfl, rfl⟩
  rw [h1]
  go_wp2_with fail
  refine (refRow_any _ (w.heap.size + 1) l o p 0 (by omega) (by exact (ref_below HS.out HO.out HE.out (by exact (blw_alloc (Below.refl _ _) _).drew)).1) (by omega) h).mono ?_
  rintro e w2 ⟨rfl, m, rfl⟩
  rw [show ((l.drop o).takeWhile (goesB 0)).length = txt.length from by rw [HTx.out]; rfl]
  go_wp2
  go_region
  go_wp2
  generalize hWW : World.setCell (World.setCell _ _ _) _ _ = W
  have q0 : W.cell? ⟨wr.heap.size, 0, none⟩ = some (.int .i64 1) := by rw [← hWW]; simp [go_sem]
  have q1' : W.cell? ⟨wr.heap.size, 1, none⟩ = some (.string (bt txt)) := by rw [← hWW]; simp [go_sem]
  have q2' : W.cell? ⟨wr.heap.size, 2, none⟩ = some (.int .i64 0) := by rw [← hWW]; simp [go_sem]
  have q3 : W.cell? ⟨wr.heap.size, 3, none⟩ = some (.int .i64 (p.1 : Int)) := by rw [← hWW]; simp [go_sem]
  have q4 : W.cell? ⟨wr.heap.size, 4, none⟩ = some (.int .i64 (p.2 : Int)) := by rw [← hWW]; simp [go_sem]
  have qf : W.frozen? ⟨wr.heap.size, 0, none⟩ = false := by rw [← hWW]; simp [go_sem]
  have qz : wr.heap.size < W.heap.size := by rw [← hWW]; simp [go_sem]
  have qB : Below wr.heap.size wr W := by rw [← hWW]; exact blw_set (blw_set (below_drewN' (blw_alloc (Below.refl _ _) _) _) _ _) _ _
  have QB := Lib.hid qB
  clear qB hWW
  go_region_held3 (fun w' => w'.cell? ⟨wr.heap.size, 1, none⟩ = some (.string (bt txt))) (go_keep)
    (first
      | (go_at_call 25; refine (refWords_any _).mono ?_; rintro e w3 ⟨b3, rfl, hb31, hb32, hcells, hbel⟩; have HCells := Lib.hid hcells; have HBel := Lib.hid hbel; have hk3 := fun j => hbel.cell (p := ⟨wr.heap.size, j, none⟩) (by first | exact qz | (simp; omega)); have hf3 := fun j => hbel.frozen (p := ⟨wr.heap.size, j, none⟩) (by first | exact qz | (simp; omega)); clear hcells hbel)
      | (go_at_call 24; refine (refOne_any txt wordsL b3 17 _ (by decide) HCells.out).mono ?_; rintro e w4 ⟨rfl, rfl⟩))
  have z3 : wr.heap.size < w3.heap.size := by have := HBel.out.size; have e : W.drew.heap.size = W.heap.size := rfl; omega
  have t0 : w3.cell? ⟨wr.heap.size, 0, none⟩ = some (.int .i64 1) := (HBel.out.cell (p := ⟨wr.heap.size, 0, none⟩) qz).trans q0
  have t1 : w3.cell? ⟨wr.heap.size, 1, none⟩ = some (.string (bt txt)) := (HBel.out.cell (p := ⟨wr.heap.size, 1, none⟩) qz).trans q1'
  have t2 : w3.cell? ⟨wr.heap.size, 2, none⟩ = some (.int .i64 0) := (HBel.out.cell (p := ⟨wr.heap.size, 2, none⟩) qz).trans q2'
  have t3 : w3.cell? ⟨wr.heap.size, 3, none⟩ = some (.int .i64 (p.1 : Int)) := (HBel.out.cell (p := ⟨wr.heap.size, 3, none⟩) qz).trans q3
  have t4 : w3.cell? ⟨wr.heap.size, 4, none⟩ = some (.int .i64 (p.2 : Int)) := (HBel.out.cell (p := ⟨wr.heap.size, 4, none⟩) qz).trans q4
  have tf : w3.frozen? ⟨wr.heap.size, 0, none⟩ = false := (HBel.out.frozen (p := ⟨wr.heap.size, 0, none⟩) qz).trans qf
  have hB3 := Lib.hid (blw_trans QB.out.drew HBel.out)
  clear q0 q1' q2' q3 q4 qf qz hk3 hf3
  have hon0 := hon0_H.out
  clear hon0_H
  have h950 := h950_H.out
  clear h950_H
  have hcap := hcap_H.out
  clear hcap_H
  have hon := hon0
  rw [← HTx.out] at hon
  rw [hon]
  have h95t := h950
  rw [← HTx.out] at h95t
  clear hon0 h950
  have hkd : wordKindL txt = 1 := by rw [wordKindL, if_neg (by rw [hon]; exact Bool.false_ne_true), if_neg (by simpa using h95t), if_neg (by rw [HHd.out, hcap]; exact Bool.false_ne_true)]
  clear hcap
  have HX2 := Lib.hid (by have := HX.out; rw [hkd] at this; exact this)
  clear hkd HX
  have HX := HX2
  go_wp2_with fail
  refine (refOn_any _ (w.heap.size + 1) l o p (txt.length) (by exact (ref_below HS.out HO.out HE.out (by exact (hB3.out))).1) (by omega) h (by omega) (by omega) bd3).mono ?_
  rintro e w5 ⟨rfl, hrd, hgr⟩
  have hk5 : ∀ j, w5.cell? ⟨wr.heap.size, j, none⟩ = _ := fun j => World.cell?_of_block (a := ⟨wr.heap.size, j, none⟩) (hgr.block _ (by show wr.heap.size < _; first | (simp; done) | omega | (simp; omega)) (ne_blk hgz))
  have hz5 := hgr.size
  have HRD := Lib.hid hrd
  have HGR := Lib.hid hgr
  obtain ⟨o5, b5⟩ := read_keep (ref_below HS.out HO.out HE.out (by exact (hB3.out))).2.1 (ref_below HS.out HO.out HE.out (by exact (hB3.out))).2.2 hgr
  have HO5 := Lib.hid o5
  have hz5' := rd_lt hrd
  clear hrd hgr o5 b5
  go_wp2_with (at_builtin; refine wpList_append_own _ rfl _ _ 22 rfl (w.heap.size + 2) 33 i0 _ 5 48 Try.underToks hi hz0 hz1 hz2 rfl (by decide) _ _ _ rfl (HO5.out.alloc _) ⟨w5.heap.size, 0, none⟩ 1 1 (tokCells ⟨1, txt, 0, p.1, p.2⟩) rfl rfl (tok_at w5 ⟨1, txt, 0, p.1, p.2⟩ _ _ rfl) (tok_one _) (by simp [maxLen]; omega) (by omega) (by simp; omega) ?_; intro v' w6 hown' hgrow _)
  have R := Lib.hid (ref_tok HS.out HP.out HO.out HE.out (by exact (hB3.out)) HRD.out HGR.out (by omega) (by omega) hcnt H.out HX.out hgrow hown')
  clear hown' hgrow hk5
  go_wp2
  refine Handed.intro (l.length - o) HMM.out ?_
  refine hJ _ _ _ ?_
  unfold RI
  (repeat apply Exists.intro)
  exact ⟨R.out, rfl⟩
end

section
open Go.RowKit Lx
attribute [local go_sem] bt_size bt_get bt_list bt_toList bt_drop bt_take

set_option maxHeartbeats 4000000 in
set_option maxRecDepth 1000000 in
theorem cs_u8 (l : List UInt8) (w : World) (h : l.length ≤ 16384) (J : Nat → Act → World → Prop) (K K1 : Act → World → Prop) (gk : Nat) (wr : World) (c1 c14 c15 c16 c17 c18 c19 c20 c263 c264 c265 c266 c267 c268 c269 c270 c271 c272 c273 c274 c275 u2 u5 u6 u7 u8 u9 u10 u11 u12 u13 u21 u22 u23 u24 u25 u26 u27 u28 u29 u30 u31 u32 u33 u34 u35 u36 u37 u38 u39 u40 u41 u42 u43 u44 u45 u46 u47 u48 u49 u50 u51 u52 u53 u54 u55 u56 u57 u58 u59 u60 u61 u62 u63 u64 u65 u66 u67 u68 u69 u70 u71 u72 u73 u74 u75 u76 u77 u78 u79 u80 u81 u82 u83 u84 u85 u86 u87 u88 u89 u90 u91 u92 u93 u94 u95 u96 u97 u98 u99 u100 u101 u102 u103 u104 u105 u106 u107 u108 u109 u110 u111 u112 u113 u114 u115 u116 u117 u118 u119 u120 u121 u122 u123 u124 u125 u126 u127 u128 u129 u130 u131 u132 u133 u134 u135 u136 u137 u138 u139 u140 u141 u142 u143 u144 u145 u146 u147 u148 u149 u150 u151 u152 u153 u154 u155 u156 u157 u158 u159 u160 u161 u162 u163 u164 u165 u166 u167 u168 u169 u170 u171 u172 u173 u174 u175 u176 u177 u178 u179 u180 u181 u182 u183 u184 u185 u186 u187 u188 u189 u190 u191 u192 u193 u194 u195 u196 u197 u198 u199 u200 u201 u202 u203 u204 u205 u206 u207 u208 u209 u210 u211 u212 u213 u214 u215 u216 u217 u218 u219 u220 u221 u222 u223 u224 u225 u226 u227 u228 u229 u230 u231 u232 u233 u234 u235 u236 u237 u238 u239 u240 u241 u242 u243 u244 u245 u246 u247 u248 u249 u250 u251 u252 u253 u254 u255 u256 u257 u258 u259 u260 u261 u262 : Value) (o : Nat) (p : Nat × Nat) (ts : List Tk)
    (hrel : RefAt w l gk u5 wr o p ts) (hlt : o < l.length) (hsp : ¬ spaceB l[o] = true) (hop : ¬ openB (l.drop o) = true) (h1 : letB l[o] = false) (h95 : l[o] = 95) (hon0 : oneB wordsL ((l.drop o).takeWhile wordB) = false) (h950 : (((l.drop o).takeWhile wordB) == [95]) = true) 
    (hJ : ∀ k a' w', RI w l c1 c14 c15 c16 c17 c18 c19 c20 c263 c264 c265 c266 c267 c268 c269 c270 c271 c272 c273 c274 c275 k a' w' → J k a' w') (hK : ∀ a' w', Handed J gk a' w' → K a' w') :
    Code.wp Try.prog refBody (Exit.then K (Exit.inBlock 0 (Exit.then K1 (bodyPost Try.prog Try.f9 (fun e w' => ReadPost w l e w'))))) ⟨#[.string (bt l), c1, u2, .pointer (some ⟨w.heap.size, 0, none⟩), .pointer (some ⟨w.heap.size + 1, 0, none⟩), u5, u6, u7, u8, u9, u10, u11, u12, u13, c14, c15, c16, c17, c18, c19, c20, u21, u22, u23, u24, u25, u26, u27, u28, u29, u30, u31, u32, u33, u34, u35, u36, u37, u38, u39, u40, u41, u42, u43, u44, u45, u46, u47, u48, u49, u50, u51, u52, u53, u54, u55, u56, u57, u58, u59, u60, u61, u62, u63, u64, u65, u66, u67, u68, u69, u70, u71, u72, u73, u74, u75, u76, u77, u78, u79, u80, u81, u82, u83, u84, u85, u86, u87, u88, u89, u90, u91, u92, u93, u94, u95, u96, u97, u98, u99, u100, u101, u102, u103, u104, u105, u106, u107, u108, u109, u110, u111, u112, u113, u114, u115, u116, u117, u118, u119, u120, u121, u122, u123, u124, u125, u126, u127, u128, u129, u130, u131, u132, u133, u134, u135, u136, u137, u138, u139, u140, u141, u142, u143, u144, u145, u146, u147, u148, u149, u150, u151, u152, u153, u154, u155, u156, u157, u158, u159, u160, u161, u162, u163, u164, u165, u166, u167, u168, u169, u170, u171, u172, u173, u174, u175, u176, u177, u178, u179, u180, u181, u182, u183, u184, u185, u186, u187, u188, u189, u190, u191, u192, u193, u194, u195, u196, u197, u198, u199, u200, u201, u202, u203, u204, u205, u206, u207, u208, u209, u210, u211, u212, u213, u214, u215, u216, u217, u218, u219, u220, u221, u222, u223, u224, u225, u226, u227, u228, u229, u230, u231, u232, u233, u234, u235, u236, u237, u238, u239, u240, u241, u242, u243, u244, u245, u246, u247, u248, u249, u250, u251, u252, u253, u254, u255, u256, u257, u258, u259, u260, u261, u262, c263, c264, c265, c266, c267, c268, c269, c270, c271, c272, c273, c274, c275], []⟩ wr := by
  obtain ⟨i0, hi, hz0, hz1, hz2⟩ := info_parts Try.infoTok
  obtain ⟨hs, hp, ho, hown, hbe, hcnt, hall, hmm⟩ := hrel
  obtain ⟨c0', c1', c2', c3'⟩ := rd_cells hs
  have hgz := rd_lt hs
  have hbd := adv_bd (l.take o) (1, 1) (by simp)
  rw [← hp] at hbd
  have htl : (l.take o).length ≤ o := List.length_take_le _ _
  simp only at hbd
  obtain ⟨bd1, bd2⟩ := hbd
  have bd3 : 1 ≤ p.2 := by rw [hp, advL_eq]; split <;> simp
  have H := Lib.hid hall
  have HS := Lib.hid hs
  have HP := Lib.hid hp
  have HO := Lib.hid hown
  have HE := Lib.hid hbe
  have HMM := Lib.hid hmm
  clear hall hs hp hown hbe hmm
  have hd := List.drop_eq_getElem_cons hlt
  have HD := Lib.hid hd
  clear hd
  have hb8 : (l[o].toNat : Int) ≤ 255 := by have := l[o].toNat_lt; omega
  have hon0_H := Lib.hid hon0
  clear hon0
  have h950_H := Lib.hid h950
  clear h950
  have hsp' : spaceB l[o] = false := by simpa using hsp
  have q1 : ((l[o].toNat : Int) == 32) = false := byte_ne (b := 32) (fun e => by rw [e] at hsp'; exact absurd hsp' (by decide))
  have q2 : ((l[o].toNat : Int) == 10) = false := byte_ne (b := 10) (fun e => by rw [e] at hsp'; exact absurd hsp' (by decide))
  have hop' : openB (l.drop o) = false := by simpa using hop
  have r12 : ((l[o].toNat : Int) == 123) = false ∨ (((l[o].toNat : Int) == 123) = true ∧ ¬ o + 1 < l.length) ∨ (((l[o].toNat : Int) == 123) = true ∧ ∃ h2 : o + 1 < l.length, ((l[o + 1].toNat : Int) == 45) = false) := by
    by_cases e : l[o] = 123
    · by_cases h2 : o + 1 < l.length
      · refine .inr (.inr ⟨by rw [e]; rfl, h2, byte_ne (b := 45) ?_⟩)
        intro e2
        rw [HD.out, List.drop_eq_getElem_cons h2, e, e2] at hop'
        simp [openB, List.isPrefixOf] at hop'
      · exact .inr (.inl ⟨by rw [e]; rfl, h2⟩)
    · exact .inl (byte_ne e)
  have hw0 : wordB l[o] = true := by simp [wordB, h95]
  have r1 : ((l[o].toNat : Int) == 123) = false := byte_ne (b := 123) (fun e => by rw [e] at hw0; exact absurd hw0 (by decide))
  have hsy : symB l[o] = false := word_sym hw0
  have hgap : gapL (l.drop o) = some 0 := by rw [HD.out]; rw [HD.out] at hop'; exact gap_none hsp' hop' (line_zero hsy)
  obtain ⟨txt, htx⟩ : ∃ txt, txt = (l.drop o).takeWhile wordB := ⟨_, rfl⟩
  have ht : tokG (l[o] :: l.drop (o + 1)) = speltG (wordKindL txt) txt := by
    rw [tokG_cons, if_pos (by simp [h95]), htx, HD.out]
  have hn1 : 1 ≤ txt.length := by rw [htx, HD.out, tw_cons hw0]; simp
  have hn2 : o + txt.length ≤ l.length := by
    rw [htx]
    have := takeWhile_len wordB (l.drop o)
    simp at this
    omega
  have hx : lx (l.drop o) p = (lx ((l.drop o).drop txt.length) (advL p ((l.drop o).take txt.length))).map ((⟨wordKindL txt, txt, 0, p.1, p.2⟩ : Tk) :: ·) := by
    rw [HD.out] at hgap ⊢
    rw [lx_tok hgap (by rw [ht]; rfl), ht]
    rfl
  have hex : (bt l).extract o (o + txt.length) = bt txt := by
    rw [bt_extract, show o + txt.length - o = txt.length from by omega, htx, ← tw_take2]
  have hhd : txt.headD 0 = l[o] := by rw [htx, HD.out, tw_cons hw0]; rfl
  have HX := Lib.hid hx
  have HTx := Lib.hid htx
  have HHd := Lib.hid hhd
  clear hx hgap hsp hop hop' r12 ht htx hhd hsy
  have i1 : (o : Int) + (txt.length : Int) ≤ (l.length : Int) := by omega
  have i2 : (o : Int) ≤ (o : Int) + (txt.length : Int) := by omega
  have g95 : ((l[o].toNat : Int) == 95) = true := by rw [h95]; rfl
  have H95 := Lib.hid h95
  clear h95
  conv => arg 2; whnf
  go_wp2
  go_region
  go_wp2_with fail
  refine (refLetter_any _ _).mono ?_
  rintro e w' ⟨rfl, rfl⟩
  rw [h1]
  go_wp2_with fail
  refine (refRow_any _ (w.heap.size + 1) l o p 0 (by omega) (by exact (ref_below HS.out HO.out HE.out (by exact (blw_alloc (Below.refl _ _) _).drew)).1) (by omega) h).mono ?_
  rintro e w2 ⟨rfl, m, rfl⟩
  rw [show ((l.drop o).takeWhile (goesB 0)).length = txt.length from by rw [HTx.out]; rfl]
  go_wp2
  go_region
  go_wp2
  generalize hWW : World.setCell (World.setCell _ _ _) _ _ = W
  have q0 : W.cell? ⟨wr.heap.size, 0, none⟩ = some (.int .i64 1) := by rw [← hWW]; simp [go_sem]
  have q1' : W.cell? ⟨wr.heap.size, 1, none⟩ = some (.string (bt txt)) := by rw [← hWW]; simp [go_sem]
  have q2' : W.cell? ⟨wr.heap.size, 2, none⟩ = some (.int .i64 0) := by rw [← hWW]; simp [go_sem]
  have q3 : W.cell? ⟨wr.heap.size, 3, none⟩ = some (.int .i64 (p.1 : Int)) := by rw [← hWW]; simp [go_sem]
  have q4 : W.cell? ⟨wr.heap.size, 4, none⟩ = some (.int .i64 (p.2 : Int)) := by rw [← hWW]; simp [go_sem]
  have qf : W.frozen? ⟨wr.heap.size, 0, none⟩ = false := by rw [← hWW]; simp [go_sem]
  have qz : wr.heap.size < W.heap.size := by rw [← hWW]; simp [go_sem]
  have qB : Below wr.heap.size wr W := by rw [← hWW]; exact blw_set (blw_set (below_drewN' (blw_alloc (Below.refl _ _) _) _) _ _) _ _
  have QB := Lib.hid qB
  clear qB hWW
  go_region_held3 (fun w' => w'.cell? ⟨wr.heap.size, 1, none⟩ = some (.string (bt txt))) (go_keep)
    (first
      | (go_at_call 25; refine (refWords_any _).mono ?_; rintro e w3 ⟨b3, rfl, hb31, hb32, hcells, hbel⟩; have HCells := Lib.hid hcells; have HBel := Lib.hid hbel; have hk3 := fun j => hbel.cell (p := ⟨wr.heap.size, j, none⟩) (by first | exact qz | (simp; omega)); have hf3 := fun j => hbel.frozen (p := ⟨wr.heap.size, j, none⟩) (by first | exact qz | (simp; omega)); clear hcells hbel)
      | (go_at_call 24; refine (refOne_any txt wordsL b3 17 _ (by decide) HCells.out).mono ?_; rintro e w4 ⟨rfl, rfl⟩))
  have z3 : wr.heap.size < w3.heap.size := by have := HBel.out.size; have e : W.drew.heap.size = W.heap.size := rfl; omega
  have t0 : w3.cell? ⟨wr.heap.size, 0, none⟩ = some (.int .i64 1) := (HBel.out.cell (p := ⟨wr.heap.size, 0, none⟩) qz).trans q0
  have t1 : w3.cell? ⟨wr.heap.size, 1, none⟩ = some (.string (bt txt)) := (HBel.out.cell (p := ⟨wr.heap.size, 1, none⟩) qz).trans q1'
  have t2 : w3.cell? ⟨wr.heap.size, 2, none⟩ = some (.int .i64 0) := (HBel.out.cell (p := ⟨wr.heap.size, 2, none⟩) qz).trans q2'
  have t3 : w3.cell? ⟨wr.heap.size, 3, none⟩ = some (.int .i64 (p.1 : Int)) := (HBel.out.cell (p := ⟨wr.heap.size, 3, none⟩) qz).trans q3
  have t4 : w3.cell? ⟨wr.heap.size, 4, none⟩ = some (.int .i64 (p.2 : Int)) := (HBel.out.cell (p := ⟨wr.heap.size, 4, none⟩) qz).trans q4
  have tf : w3.frozen? ⟨wr.heap.size, 0, none⟩ = false := (HBel.out.frozen (p := ⟨wr.heap.size, 0, none⟩) qz).trans qf
  have hB3 := Lib.hid (blw_trans QB.out.drew HBel.out)
  clear q0 q1' q2' q3 q4 qf qz hk3 hf3
  have hon0 := hon0_H.out
  clear hon0_H
  have h950 := h950_H.out
  clear h950_H
  have hon := hon0
  rw [← HTx.out] at hon
  rw [hon]
  have h95t := h950
  rw [← HTx.out] at h95t
  clear hon0 h950
  have hkd : wordKindL txt = 8 := by rw [wordKindL, if_neg (by rw [hon]; exact Bool.false_ne_true), if_pos (by simpa using h95t)]
  have HX2 := Lib.hid (by have := HX.out; rw [hkd] at this; exact this)
  clear hkd HX
  have HX := HX2
  go_wp2_with fail
  refine (refOn_any _ (w.heap.size + 1) l o p (txt.length) (by exact (ref_below HS.out HO.out HE.out (by exact (blw_set (hB3.out) _ _))).1) (by omega) h (by omega) (by omega) bd3).mono ?_
  rintro e w5 ⟨rfl, hrd, hgr⟩
  have hk5 : ∀ j, w5.cell? ⟨wr.heap.size, j, none⟩ = _ := fun j => World.cell?_of_block (a := ⟨wr.heap.size, j, none⟩) (hgr.block _ (by show wr.heap.size < _; first | (simp; done) | omega | (simp; omega)) (ne_blk hgz))
  have hz5 := hgr.size
  have HRD := Lib.hid hrd
  have HGR := Lib.hid hgr
  obtain ⟨o5, b5⟩ := read_keep (ref_below HS.out HO.out HE.out (by exact (blw_set (hB3.out) _ _))).2.1 (ref_below HS.out HO.out HE.out (by exact (blw_set (hB3.out) _ _))).2.2 hgr
  have HO5 := Lib.hid o5
  have hz5' := rd_lt hrd
  clear hrd hgr o5 b5
  go_wp2_with (at_builtin; refine wpList_append_own _ rfl _ _ 22 rfl (w.heap.size + 2) 33 i0 _ 5 48 Try.underToks hi hz0 hz1 hz2 rfl (by decide) _ _ _ rfl (HO5.out.alloc _) ⟨w5.heap.size, 0, none⟩ 1 1 (tokCells ⟨8, txt, 0, p.1, p.2⟩) rfl rfl (tok_at w5 ⟨8, txt, 0, p.1, p.2⟩ _ _ rfl) (tok_one _) (by simp [maxLen]; omega) (by omega) (by simp; omega) ?_; intro v' w6 hown' hgrow _)
  have R := Lib.hid (ref_tok HS.out HP.out HO.out HE.out (by exact (blw_set (hB3.out) _ _)) HRD.out HGR.out (by omega) (by omega) hcnt H.out HX.out hgrow hown')
  clear hown' hgrow hk5
  go_wp2
  refine Handed.intro (l.length - o) HMM.out ?_
  refine hJ _ _ _ ?_
  unfold RI
  (repeat apply Exists.intro)
  exact ⟨R.out, rfl⟩
end

section
open Go.RowKit Lx
attribute [local go_sem] bt_size bt_get bt_list bt_toList bt_drop bt_take

set_option maxHeartbeats 4000000 in
set_option maxRecDepth 1000000 in
theorem cs_u1 (l : List UInt8) (w : World) (h : l.length ≤ 16384) (J : Nat → Act → World → Prop) (K K1 : Act → World → Prop) (gk : Nat) (wr : World) (c1 c14 c15 c16 c17 c18 c19 c20 c263 c264 c265 c266 c267 c268 c269 c270 c271 c272 c273 c274 c275 u2 u5 u6 u7 u8 u9 u10 u11 u12 u13 u21 u22 u23 u24 u25 u26 u27 u28 u29 u30 u31 u32 u33 u34 u35 u36 u37 u38 u39 u40 u41 u42 u43 u44 u45 u46 u47 u48 u49 u50 u51 u52 u53 u54 u55 u56 u57 u58 u59 u60 u61 u62 u63 u64 u65 u66 u67 u68 u69 u70 u71 u72 u73 u74 u75 u76 u77 u78 u79 u80 u81 u82 u83 u84 u85 u86 u87 u88 u89 u90 u91 u92 u93 u94 u95 u96 u97 u98 u99 u100 u101 u102 u103 u104 u105 u106 u107 u108 u109 u110 u111 u112 u113 u114 u115 u116 u117 u118 u119 u120 u121 u122 u123 u124 u125 u126 u127 u128 u129 u130 u131 u132 u133 u134 u135 u136 u137 u138 u139 u140 u141 u142 u143 u144 u145 u146 u147 u148 u149 u150 u151 u152 u153 u154 u155 u156 u157 u158 u159 u160 u161 u162 u163 u164 u165 u166 u167 u168 u169 u170 u171 u172 u173 u174 u175 u176 u177 u178 u179 u180 u181 u182 u183 u184 u185 u186 u187 u188 u189 u190 u191 u192 u193 u194 u195 u196 u197 u198 u199 u200 u201 u202 u203 u204 u205 u206 u207 u208 u209 u210 u211 u212 u213 u214 u215 u216 u217 u218 u219 u220 u221 u222 u223 u224 u225 u226 u227 u228 u229 u230 u231 u232 u233 u234 u235 u236 u237 u238 u239 u240 u241 u242 u243 u244 u245 u246 u247 u248 u249 u250 u251 u252 u253 u254 u255 u256 u257 u258 u259 u260 u261 u262 : Value) (o : Nat) (p : Nat × Nat) (ts : List Tk)
    (hrel : RefAt w l gk u5 wr o p ts) (hlt : o < l.length) (hsp : ¬ spaceB l[o] = true) (hop : ¬ openB (l.drop o) = true) (h1 : letB l[o] = false) (h95 : l[o] = 95) (hon0 : oneB wordsL ((l.drop o).takeWhile wordB) = false) (h950 : (((l.drop o).takeWhile wordB) == [95]) = false) (hcap : capB l[o] = false) (cp1 : (65 : Int) ≤ (l[o].toNat : Int)) (cp2 : ¬ (l[o].toNat : Int) ≤ 90)
    (hJ : ∀ k a' w', RI w l c1 c14 c15 c16 c17 c18 c19 c20 c263 c264 c265 c266 c267 c268 c269 c270 c271 c272 c273 c274 c275 k a' w' → J k a' w') (hK : ∀ a' w', Handed J gk a' w' → K a' w') :
    Code.wp Try.prog refBody (Exit.then K (Exit.inBlock 0 (Exit.then K1 (bodyPost Try.prog Try.f9 (fun e w' => ReadPost w l e w'))))) ⟨#[.string (bt l), c1, u2, .pointer (some ⟨w.heap.size, 0, none⟩), .pointer (some ⟨w.heap.size + 1, 0, none⟩), u5, u6, u7, u8, u9, u10, u11, u12, u13, c14, c15, c16, c17, c18, c19, c20, u21, u22, u23, u24, u25, u26, u27, u28, u29, u30, u31, u32, u33, u34, u35, u36, u37, u38, u39, u40, u41, u42, u43, u44, u45, u46, u47, u48, u49, u50, u51, u52, u53, u54, u55, u56, u57, u58, u59, u60, u61, u62, u63, u64, u65, u66, u67, u68, u69, u70, u71, u72, u73, u74, u75, u76, u77, u78, u79, u80, u81, u82, u83, u84, u85, u86, u87, u88, u89, u90, u91, u92, u93, u94, u95, u96, u97, u98, u99, u100, u101, u102, u103, u104, u105, u106, u107, u108, u109, u110, u111, u112, u113, u114, u115, u116, u117, u118, u119, u120, u121, u122, u123, u124, u125, u126, u127, u128, u129, u130, u131, u132, u133, u134, u135, u136, u137, u138, u139, u140, u141, u142, u143, u144, u145, u146, u147, u148, u149, u150, u151, u152, u153, u154, u155, u156, u157, u158, u159, u160, u161, u162, u163, u164, u165, u166, u167, u168, u169, u170, u171, u172, u173, u174, u175, u176, u177, u178, u179, u180, u181, u182, u183, u184, u185, u186, u187, u188, u189, u190, u191, u192, u193, u194, u195, u196, u197, u198, u199, u200, u201, u202, u203, u204, u205, u206, u207, u208, u209, u210, u211, u212, u213, u214, u215, u216, u217, u218, u219, u220, u221, u222, u223, u224, u225, u226, u227, u228, u229, u230, u231, u232, u233, u234, u235, u236, u237, u238, u239, u240, u241, u242, u243, u244, u245, u246, u247, u248, u249, u250, u251, u252, u253, u254, u255, u256, u257, u258, u259, u260, u261, u262, c263, c264, c265, c266, c267, c268, c269, c270, c271, c272, c273, c274, c275], []⟩ wr := by
  obtain ⟨i0, hi, hz0, hz1, hz2⟩ := info_parts Try.infoTok
  obtain ⟨hs, hp, ho, hown, hbe, hcnt, hall, hmm⟩ := hrel
  obtain ⟨c0', c1', c2', c3'⟩ := rd_cells hs
  have hgz := rd_lt hs
  have hbd := adv_bd (l.take o) (1, 1) (by simp)
  rw [← hp] at hbd
  have htl : (l.take o).length ≤ o := List.length_take_le _ _
  simp only at hbd
  obtain ⟨bd1, bd2⟩ := hbd
  have bd3 : 1 ≤ p.2 := by rw [hp, advL_eq]; split <;> simp
  have H := Lib.hid hall
  have HS := Lib.hid hs
  have HP := Lib.hid hp
  have HO := Lib.hid hown
  have HE := Lib.hid hbe
  have HMM := Lib.hid hmm
  clear hall hs hp hown hbe hmm
  have hd := List.drop_eq_getElem_cons hlt
  have HD := Lib.hid hd
  clear hd
  have hb8 : (l[o].toNat : Int) ≤ 255 := by have := l[o].toNat_lt; omega
  have hon0_H := Lib.hid hon0
  clear hon0
  have h950_H := Lib.hid h950
  clear h950
  have hcap_H := Lib.hid hcap
  clear hcap
  have hsp' : spaceB l[o] = false := by simpa using hsp
  have q1 : ((l[o].toNat : Int) == 32) = false := byte_ne (b := 32) (fun e => by rw [e] at hsp'; exact absurd hsp' (by decide))
  have q2 : ((l[o].toNat : Int) == 10) = false := byte_ne (b := 10) (fun e => by rw [e] at hsp'; exact absurd hsp' (by decide))
  have hop' : openB (l.drop o) = false := by simpa using hop
  have r12 : ((l[o].toNat : Int) == 123) = false ∨ (((l[o].toNat : Int) == 123) = true ∧ ¬ o + 1 < l.length) ∨ (((l[o].toNat : Int) == 123) = true ∧ ∃ h2 : o + 1 < l.length, ((l[o + 1].toNat : Int) == 45) = false) := by
    by_cases e : l[o] = 123
    · by_cases h2 : o + 1 < l.length
      · refine .inr (.inr ⟨by rw [e]; rfl, h2, byte_ne (b := 45) ?_⟩)
        intro e2
        rw [HD.out, List.drop_eq_getElem_cons h2, e, e2] at hop'
        simp [openB, List.isPrefixOf] at hop'
      · exact .inr (.inl ⟨by rw [e]; rfl, h2⟩)
    · exact .inl (byte_ne e)
  have hw0 : wordB l[o] = true := by simp [wordB, h95]
  have r1 : ((l[o].toNat : Int) == 123) = false := byte_ne (b := 123) (fun e => by rw [e] at hw0; exact absurd hw0 (by decide))
  have hsy : symB l[o] = false := word_sym hw0
  have hgap : gapL (l.drop o) = some 0 := by rw [HD.out]; rw [HD.out] at hop'; exact gap_none hsp' hop' (line_zero hsy)
  obtain ⟨txt, htx⟩ : ∃ txt, txt = (l.drop o).takeWhile wordB := ⟨_, rfl⟩
  have ht : tokG (l[o] :: l.drop (o + 1)) = speltG (wordKindL txt) txt := by
    rw [tokG_cons, if_pos (by simp [h95]), htx, HD.out]
  have hn1 : 1 ≤ txt.length := by rw [htx, HD.out, tw_cons hw0]; simp
  have hn2 : o + txt.length ≤ l.length := by
    rw [htx]
    have := takeWhile_len wordB (l.drop o)
    simp at this
    omega
  have hx : lx (l.drop o) p = (lx ((l.drop o).drop txt.length) (advL p ((l.drop o).take txt.length))).map ((⟨wordKindL txt, txt, 0, p.1, p.2⟩ : Tk) :: ·) := by
    rw [HD.out] at hgap ⊢
    rw [lx_tok hgap (by rw [ht]; rfl), ht]
    rfl
  have hex : (bt l).extract o (o + txt.length) = bt txt := by
    rw [bt_extract, show o + txt.length - o = txt.length from by omega, htx, ← tw_take2]
  have hhd : txt.headD 0 = l[o] := by rw [htx, HD.out, tw_cons hw0]; rfl
  have HX := Lib.hid hx
  have HTx := Lib.hid htx
  have HHd := Lib.hid hhd
  clear hx hgap hsp hop hop' r12 ht htx hhd hsy
  have i1 : (o : Int) + (txt.length : Int) ≤ (l.length : Int) := by omega
  have i2 : (o : Int) ≤ (o : Int) + (txt.length : Int) := by omega
  have g95 : ((l[o].toNat : Int) == 95) = true := by rw [h95]; rfl
  have H95 := Lib.hid h95
  clear h95
  conv => arg 2; whnf
  go_wp2
  go_region
  go_wp2_with fail
  refine (refLetter_any _ _).mono ?_
  rintro e w' ⟨rfl, rfl⟩
  rw [h1]
  go_wp2_with fail
  refine (refRow_any _ (w.heap.size + 1) l o p 0 (by omega) (by exact (ref_below HS.out HO.out HE.out (by exact (blw_alloc (Below.refl _ _) _).drew)).1) (by omega) h).mono ?_
  rintro e w2 ⟨rfl, m, rfl⟩
  rw [show ((l.drop o).takeWhile (goesB 0)).length = txt.length from by rw [HTx.out]; rfl]
  go_wp2
  go_region
  go_wp2
  generalize hWW : World.setCell (World.setCell _ _ _) _ _ = W
  have q0 : W.cell? ⟨wr.heap.size, 0, none⟩ = some (.int .i64 1) := by rw [← hWW]; simp [go_sem]
  have q1' : W.cell? ⟨wr.heap.size, 1, none⟩ = some (.string (bt txt)) := by rw [← hWW]; simp [go_sem]
  have q2' : W.cell? ⟨wr.heap.size, 2, none⟩ = some (.int .i64 0) := by rw [← hWW]; simp [go_sem]
  have q3 : W.cell? ⟨wr.heap.size, 3, none⟩ = some (.int .i64 (p.1 : Int)) := by rw [← hWW]; simp [go_sem]
  have q4 : W.cell? ⟨wr.heap.size, 4, none⟩ = some (.int .i64 (p.2 : Int)) := by rw [← hWW]; simp [go_sem]
  have qf : W.frozen? ⟨wr.heap.size, 0, none⟩ = false := by rw [← hWW]; simp [go_sem]
  have qz : wr.heap.size < W.heap.size := by rw [← hWW]; simp [go_sem]
  have qB : Below wr.heap.size wr W := by rw [← hWW]; exact blw_set (blw_set (below_drewN' (blw_alloc (Below.refl _ _) _) _) _ _) _ _
  have QB := Lib.hid qB
  clear qB hWW
  go_region_held3 (fun w' => w'.cell? ⟨wr.heap.size, 1, none⟩ = some (.string (bt txt))) (go_keep)
    (first
      | (go_at_call 25; refine (refWords_any _).mono ?_; rintro e w3 ⟨b3, rfl, hb31, hb32, hcells, hbel⟩; have HCells := Lib.hid hcells; have HBel := Lib.hid hbel; have hk3 := fun j => hbel.cell (p := ⟨wr.heap.size, j, none⟩) (by first | exact qz | (simp; omega)); have hf3 := fun j => hbel.frozen (p := ⟨wr.heap.size, j, none⟩) (by first | exact qz | (simp; omega)); clear hcells hbel)
      | (go_at_call 24; refine (refOne_any txt wordsL b3 17 _ (by decide) HCells.out).mono ?_; rintro e w4 ⟨rfl, rfl⟩))
  have z3 : wr.heap.size < w3.heap.size := by have := HBel.out.size; have e : W.drew.heap.size = W.heap.size := rfl; omega
  have t0 : w3.cell? ⟨wr.heap.size, 0, none⟩ = some (.int .i64 1) := (HBel.out.cell (p := ⟨wr.heap.size, 0, none⟩) qz).trans q0
  have t1 : w3.cell? ⟨wr.heap.size, 1, none⟩ = some (.string (bt txt)) := (HBel.out.cell (p := ⟨wr.heap.size, 1, none⟩) qz).trans q1'
  have t2 : w3.cell? ⟨wr.heap.size, 2, none⟩ = some (.int .i64 0) := (HBel.out.cell (p := ⟨wr.heap.size, 2, none⟩) qz).trans q2'
  have t3 : w3.cell? ⟨wr.heap.size, 3, none⟩ = some (.int .i64 (p.1 : Int)) := (HBel.out.cell (p := ⟨wr.heap.size, 3, none⟩) qz).trans q3
  have t4 : w3.cell? ⟨wr.heap.size, 4, none⟩ = some (.int .i64 (p.2 : Int)) := (HBel.out.cell (p := ⟨wr.heap.size, 4, none⟩) qz).trans q4
  have tf : w3.frozen? ⟨wr.heap.size, 0, none⟩ = false := (HBel.out.frozen (p := ⟨wr.heap.size, 0, none⟩) qz).trans qf
  have hB3 := Lib.hid (blw_trans QB.out.drew HBel.out)
  clear q0 q1' q2' q3 q4 qf qz hk3 hf3
  have hon0 := hon0_H.out
  clear hon0_H
  have h950 := h950_H.out
  clear h950_H
  have hcap := hcap_H.out
  clear hcap_H
  have hon := hon0
  rw [← HTx.out] at hon
  rw [hon]
  have h95t := h950
  rw [← HTx.out] at h95t
  clear hon0 h950
  have hkd : wordKindL txt = 1 := by rw [wordKindL, if_neg (by rw [hon]; exact Bool.false_ne_true), if_neg (by simpa using h95t), if_neg (by rw [HHd.out, hcap]; exact Bool.false_ne_true)]
  clear hcap
  have HX2 := Lib.hid (by have := HX.out; rw [hkd] at this; exact this)
  clear hkd HX
  have HX := HX2
  go_wp2_with fail
  refine (refOn_any _ (w.heap.size + 1) l o p (txt.length) (by exact (ref_below HS.out HO.out HE.out (by exact (hB3.out))).1) (by omega) h (by omega) (by omega) bd3).mono ?_
  rintro e w5 ⟨rfl, hrd, hgr⟩
  have hk5 : ∀ j, w5.cell? ⟨wr.heap.size, j, none⟩ = _ := fun j => World.cell?_of_block (a := ⟨wr.heap.size, j, none⟩) (hgr.block _ (by show wr.heap.size < _; first | (simp; done) | omega | (simp; omega)) (ne_blk hgz))
  have hz5 := hgr.size
  have HRD := Lib.hid hrd
  have HGR := Lib.hid hgr
  obtain ⟨o5, b5⟩ := read_keep (ref_below HS.out HO.out HE.out (by exact (hB3.out))).2.1 (ref_below HS.out HO.out HE.out (by exact (hB3.out))).2.2 hgr
  have HO5 := Lib.hid o5
  have hz5' := rd_lt hrd
  clear hrd hgr o5 b5
  go_wp2_with (at_builtin; refine wpList_append_own _ rfl _ _ 22 rfl (w.heap.size + 2) 33 i0 _ 5 48 Try.underToks hi hz0 hz1 hz2 rfl (by decide) _ _ _ rfl (HO5.out.alloc _) ⟨w5.heap.size, 0, none⟩ 1 1 (tokCells ⟨1, txt, 0, p.1, p.2⟩) rfl rfl (tok_at w5 ⟨1, txt, 0, p.1, p.2⟩ _ _ rfl) (tok_one _) (by simp [maxLen]; omega) (by omega) (by simp; omega) ?_; intro v' w6 hown' hgrow _)
  have R := Lib.hid (ref_tok HS.out HP.out HO.out HE.out (by exact (hB3.out)) HRD.out HGR.out (by omega) (by omega) hcnt H.out HX.out hgrow hown')
  clear hown' hgrow hk5
  go_wp2
  refine Handed.intro (l.length - o) HMM.out ?_
  refine hJ _ _ _ ?_
  unfold RI
  (repeat apply Exists.intro)
  exact ⟨R.out, rfl⟩
end

section
open Go.RowKit Lx
attribute [local go_sem] bt_size bt_get bt_list bt_toList bt_drop bt_take

set_option maxHeartbeats 4000000 in
set_option maxRecDepth 1000000 in
theorem cs_d1 (l : List UInt8) (w : World) (h : l.length ≤ 16384) (J : Nat → Act → World → Prop) (K K1 : Act → World → Prop) (gk : Nat) (wr : World) (c1 c14 c15 c16 c17 c18 c19 c20 c263 c264 c265 c266 c267 c268 c269 c270 c271 c272 c273 c274 c275 u2 u5 u6 u7 u8 u9 u10 u11 u12 u13 u21 u22 u23 u24 u25 u26 u27 u28 u29 u30 u31 u32 u33 u34 u35 u36 u37 u38 u39 u40 u41 u42 u43 u44 u45 u46 u47 u48 u49 u50 u51 u52 u53 u54 u55 u56 u57 u58 u59 u60 u61 u62 u63 u64 u65 u66 u67 u68 u69 u70 u71 u72 u73 u74 u75 u76 u77 u78 u79 u80 u81 u82 u83 u84 u85 u86 u87 u88 u89 u90 u91 u92 u93 u94 u95 u96 u97 u98 u99 u100 u101 u102 u103 u104 u105 u106 u107 u108 u109 u110 u111 u112 u113 u114 u115 u116 u117 u118 u119 u120 u121 u122 u123 u124 u125 u126 u127 u128 u129 u130 u131 u132 u133 u134 u135 u136 u137 u138 u139 u140 u141 u142 u143 u144 u145 u146 u147 u148 u149 u150 u151 u152 u153 u154 u155 u156 u157 u158 u159 u160 u161 u162 u163 u164 u165 u166 u167 u168 u169 u170 u171 u172 u173 u174 u175 u176 u177 u178 u179 u180 u181 u182 u183 u184 u185 u186 u187 u188 u189 u190 u191 u192 u193 u194 u195 u196 u197 u198 u199 u200 u201 u202 u203 u204 u205 u206 u207 u208 u209 u210 u211 u212 u213 u214 u215 u216 u217 u218 u219 u220 u221 u222 u223 u224 u225 u226 u227 u228 u229 u230 u231 u232 u233 u234 u235 u236 u237 u238 u239 u240 u241 u242 u243 u244 u245 u246 u247 u248 u249 u250 u251 u252 u253 u254 u255 u256 u257 u258 u259 u260 u261 u262 : Value) (o : Nat) (p : Nat × Nat) (ts : List Tk)
    (hrel : RefAt w l gk u5 wr o p ts) (hlt : o < l.length) (hsp : ¬ spaceB l[o] = true) (hop : ¬ openB (l.drop o) = true) (h1 : letB l[o] = false) (h95 : ¬ l[o] = 95) (h3 : digB l[o] = true) (hv : valL 9223372036854775807 0 ((l.drop o).takeWhile digB) = none)
    (_hJ : ∀ k a' w', RI w l c1 c14 c15 c16 c17 c18 c19 c20 c263 c264 c265 c266 c267 c268 c269 c270 c271 c272 c273 c274 c275 k a' w' → J k a' w') (_hK : ∀ a' w', Handed J gk a' w' → K a' w') :
    Code.wp Try.prog refBody (Exit.then K (Exit.inBlock 0 (Exit.then K1 (bodyPost Try.prog Try.f9 (fun e w' => ReadPost w l e w'))))) ⟨#[.string (bt l), c1, u2, .pointer (some ⟨w.heap.size, 0, none⟩), .pointer (some ⟨w.heap.size + 1, 0, none⟩), u5, u6, u7, u8, u9, u10, u11, u12, u13, c14, c15, c16, c17, c18, c19, c20, u21, u22, u23, u24, u25, u26, u27, u28, u29, u30, u31, u32, u33, u34, u35, u36, u37, u38, u39, u40, u41, u42, u43, u44, u45, u46, u47, u48, u49, u50, u51, u52, u53, u54, u55, u56, u57, u58, u59, u60, u61, u62, u63, u64, u65, u66, u67, u68, u69, u70, u71, u72, u73, u74, u75, u76, u77, u78, u79, u80, u81, u82, u83, u84, u85, u86, u87, u88, u89, u90, u91, u92, u93, u94, u95, u96, u97, u98, u99, u100, u101, u102, u103, u104, u105, u106, u107, u108, u109, u110, u111, u112, u113, u114, u115, u116, u117, u118, u119, u120, u121, u122, u123, u124, u125, u126, u127, u128, u129, u130, u131, u132, u133, u134, u135, u136, u137, u138, u139, u140, u141, u142, u143, u144, u145, u146, u147, u148, u149, u150, u151, u152, u153, u154, u155, u156, u157, u158, u159, u160, u161, u162, u163, u164, u165, u166, u167, u168, u169, u170, u171, u172, u173, u174, u175, u176, u177, u178, u179, u180, u181, u182, u183, u184, u185, u186, u187, u188, u189, u190, u191, u192, u193, u194, u195, u196, u197, u198, u199, u200, u201, u202, u203, u204, u205, u206, u207, u208, u209, u210, u211, u212, u213, u214, u215, u216, u217, u218, u219, u220, u221, u222, u223, u224, u225, u226, u227, u228, u229, u230, u231, u232, u233, u234, u235, u236, u237, u238, u239, u240, u241, u242, u243, u244, u245, u246, u247, u248, u249, u250, u251, u252, u253, u254, u255, u256, u257, u258, u259, u260, u261, u262, c263, c264, c265, c266, c267, c268, c269, c270, c271, c272, c273, c274, c275], []⟩ wr := by
  obtain ⟨i0, hi, hz0, hz1, hz2⟩ := info_parts Try.infoTok
  obtain ⟨hs, hp, ho, hown, hbe, hcnt, hall, hmm⟩ := hrel
  obtain ⟨c0', c1', c2', c3'⟩ := rd_cells hs
  have hgz := rd_lt hs
  have hbd := adv_bd (l.take o) (1, 1) (by simp)
  rw [← hp] at hbd
  have htl : (l.take o).length ≤ o := List.length_take_le _ _
  simp only at hbd
  obtain ⟨bd1, bd2⟩ := hbd
  have bd3 : 1 ≤ p.2 := by rw [hp, advL_eq]; split <;> simp
  have H := Lib.hid hall
  have HS := Lib.hid hs
  have HP := Lib.hid hp
  have HO := Lib.hid hown
  have HE := Lib.hid hbe
  have HMM := Lib.hid hmm
  clear hall hs hp hown hbe hmm
  have hd := List.drop_eq_getElem_cons hlt
  have HD := Lib.hid hd
  clear hd
  have hb8 : (l[o].toNat : Int) ≤ 255 := by have := l[o].toNat_lt; omega
  have hv0 := Lib.hid hv
  clear hv
  have hsp' : spaceB l[o] = false := by simpa using hsp
  have q1 : ((l[o].toNat : Int) == 32) = false := byte_ne (b := 32) (fun e => by rw [e] at hsp'; exact absurd hsp' (by decide))
  have q2 : ((l[o].toNat : Int) == 10) = false := byte_ne (b := 10) (fun e => by rw [e] at hsp'; exact absurd hsp' (by decide))
  have hop' : openB (l.drop o) = false := by simpa using hop
  have r12 : ((l[o].toNat : Int) == 123) = false ∨ (((l[o].toNat : Int) == 123) = true ∧ ¬ o + 1 < l.length) ∨ (((l[o].toNat : Int) == 123) = true ∧ ∃ h2 : o + 1 < l.length, ((l[o + 1].toNat : Int) == 45) = false) := by
    by_cases e : l[o] = 123
    · by_cases h2 : o + 1 < l.length
      · refine .inr (.inr ⟨by rw [e]; rfl, h2, byte_ne (b := 45) ?_⟩)
        intro e2
        rw [HD.out, List.drop_eq_getElem_cons h2, e, e2] at hop'
        simp [openB, List.isPrefixOf] at hop'
      · exact .inr (.inl ⟨by rw [e]; rfl, h2⟩)
    · exact .inl (byte_ne e)
  have g95 : ((l[o].toNat : Int) == 95) = false := byte_ne h95
  have r1 : ((l[o].toNat : Int) == 123) = false := byte_ne (b := 123) (fun e => by rw [e] at h3; exact absurd h3 (by decide))
  have hsy : symB l[o] = false := sym_dig h3
  have hgap : gapL (l.drop o) = some 0 := by rw [HD.out]; rw [HD.out] at hop'; exact gap_none hsp' hop' (line_zero hsy)
  obtain ⟨txt, htx⟩ : ∃ txt, txt = (l.drop o).takeWhile digB := ⟨_, rfl⟩
  have hda : txt.all digB = true := by rw [htx]; exact all_takeWhile _ _
  have ht : tokG (l[o] :: l.drop (o + 1)) = intG (l[o] :: l.drop (o + 1)) := by
    rw [tokG_cons, if_neg (by simp [h1, h95]), if_pos h3]
  have hig : intG (l[o] :: l.drop (o + 1)) = match valL 9223372036854775807 0 txt with | none => badG 12 | some n => { speltG 5 txt with n := n } := by
    have e : (l[o] :: l.drop (o + 1)).takeWhile digB = txt := by rw [← HD.out, ← htx]
    unfold intG
    rw [e]
    rfl
  have hn1 : 1 ≤ txt.length := by rw [htx, HD.out, tw_cons h3]; simp
  have hn2 : o + txt.length ≤ l.length := by
    rw [htx]
    have := takeWhile_len digB (l.drop o)
    simp at this
    omega
  have hxe : valL 9223372036854775807 0 txt = none → lx (l.drop o) p = .error ⟨p.1, p.2, 12⟩ := fun hv => by
    rw [hv] at hig
    simp only at hig
    rw [HD.out] at hgap ⊢
    rw [lx_bad hgap (by rw [ht, hig]; simp [badG]), ht, hig]
    rfl
  have hxo : ∀ n, valL 9223372036854775807 0 txt = some n → lx (l.drop o) p = (lx ((l.drop o).drop txt.length) (advL p ((l.drop o).take txt.length))).map ((⟨5, txt, n, p.1, p.2⟩ : Tk) :: ·) := fun n hv => by
    rw [hv] at hig
    simp only at hig
    rw [HD.out] at hgap ⊢
    rw [lx_tok hgap (by rw [ht, hig]; rfl), ht, hig]
    rfl
  have hex : (bt l).extract o (o + txt.length) = bt txt := by
    rw [bt_extract, show o + txt.length - o = txt.length from by omega, htx, ← tw_take2]
  have HXe := Lib.hid hxe
  have HXo := Lib.hid hxo
  have HTx := Lib.hid htx
  have HDa := Lib.hid hda
  clear hxe hxo hgap hsp hop hop' r12 ht htx hsy hig h95 hda
  have i1 : (o : Int) + (txt.length : Int) ≤ (l.length : Int) := by omega
  have i2 : (o : Int) ≤ (o : Int) + (txt.length : Int) := by omega
  have HVal := Lib.hid (show valL 9223372036854775807 0 txt = none by rw [HTx.out]; exact hv0.out)
  conv => arg 2; whnf
  go_wp2
  go_region
  go_wp2_with fail
  refine (refLetter_any _ _).mono ?_
  rintro e w' ⟨rfl, rfl⟩
  rw [h1]
  go_wp2_with fail
  refine (refDigit_any _ _).mono ?_
  rintro e w' ⟨rfl, rfl⟩
  rw [h3]
  go_wp2_with fail
  refine (refRow_any _ (w.heap.size + 1) l o p 1 (by omega) (by exact (ref_below HS.out HO.out HE.out (by exact (blw_alloc (Below.refl _ _) _).drew)).1) (by omega) h).mono ?_
  rintro e w2 ⟨rfl, m, rfl⟩
  rw [show ((l.drop o).takeWhile (goesB 1)).length = txt.length from by rw [HTx.out]; rfl]
  go_wp2
  go_region
  go_wp2
  generalize hWW : World.drew (World.setCell (World.setCell _ _ _) _ _) = W
  have q5 : T5 W wr.heap.size 5 txt 0 p := by
    rw [← hWW]
    refine ⟨?_, ?_, ?_, ?_, ?_, fun i => ?_, ?_⟩ <;> simp [go_sem]
  have qB : Below wr.heap.size wr W := by rw [← hWW]; exact (blw_set (blw_set (below_drewN' (blw_alloc (Below.refl _ _) _) _) _ _) _ _).drew
  have QB := Lib.hid qB
  have Q5 := Lib.hid q5
  clear qB q5 hWW
  obtain ⟨WO, rfl⟩ : ∃ WO : World, WO = wr := ⟨wr, rfl⟩
  go_loopw [10] (fun i wq => DigRel WO txt p i wq) (fun i _ => txt.length - (intOf i).toNat)
  case atStart => exact ⟨0, 0, Nat.zero_le _, rfl, Int.le_refl _, by omega, rfl, Q5.out, QB.out⟩
  case round =>
    obtain ⟨k, n, hk, rfl, hn0, hnm, hval, h5q, hbq⟩ := hrel
    have H5Q := Lib.hid h5q
    obtain ⟨t0, t1, t2, t3, t4, tf, tz⟩ := h5q
    have HV := Lib.hid hval
    have hB3 := Lib.hid hbq
    have tf2 := tf 2
    clear hval hbq tf Q5 QB
    by_cases hkl : k < txt.length
    · have hdk : digB txt[k] = true := List.all_eq_true.1 HDa.out _ (List.getElem_mem hkl)
      obtain ⟨d1, d2, d3⟩ := dig_of _ hdk
      have D3 := Lib.hid d3
      clear d3 hdk
      by_cases hbig : (9223372036854775807 - ((txt[k].toNat : Int) - 48)) / 10 < n
      · have HX := Lib.hid (HXe.out (by rw [HV.out, valL_drop _ n txt k hkl, D3.out, if_pos hbig]))
        go_wp2_with fail
        refine (refBad_any _ (w.heap.size + 1) l o p 12 (by exact (ref_below HS.out HO.out HE.out (by exact (hB3.out))).1)).mono ?_
        rintro e w3 ⟨rfl, hb3⟩
        obtain ⟨_, _, be3⟩ := ref_below HS.out HO.out HE.out (blw_trans (by exact (hB3.out)) hb3)
        obtain ⟨dz, d0, d1, d2, d3, e0, e1, e2, e3⟩ := diag_cells be3
        have HE3 := Lib.hid be3
        clear be3 hb3
        unfold diagV
        go_wp2
        refine bodyPost_ret (v := .tuple #[.slice none 0 0, diagV p.1 p.2 12]) (by simp [results, go_sem, diagV, d0, d1, d2, d3]) rfl ?_
        unfold ReadPost
        rw [H.out, HX.out]
        exact ⟨rfl, below_set4 (below_diag HE3.out) (Nat.le_refl _) _ _ _ _⟩
      · go_wp2
        go_roundw
        case rel => exact ⟨k + 1, 10 * n + ((txt[k].toNat : Int) - 48), by omega, by go_num, by omega, by omega, by rw [HV.out, valL_drop _ n txt k hkl, D3.out, if_neg hbig, Int.mul_comm n 10], t5_set H5Q.out _, blw_set hB3.out _ _⟩
        case measure => simp [intOf]; omega
    · exact absurd (show valL 9223372036854775807 0 txt = some n by rw [HV.out, List.drop_of_length_le (by omega)]; rfl) (by rw [HVal.out]; exact fun e => by cases e)
end

section
open Go.RowKit Lx
attribute [local go_sem] bt_size bt_get bt_list bt_toList bt_drop bt_take

set_option maxHeartbeats 4000000 in
set_option maxRecDepth 1000000 in
theorem cs_d2 (l : List UInt8) (w : World) (h : l.length ≤ 16384) (J : Nat → Act → World → Prop) (K K1 : Act → World → Prop) (gk : Nat) (wr : World) (c1 c14 c15 c16 c17 c18 c19 c20 c263 c264 c265 c266 c267 c268 c269 c270 c271 c272 c273 c274 c275 u2 u5 u6 u7 u8 u9 u10 u11 u12 u13 u21 u22 u23 u24 u25 u26 u27 u28 u29 u30 u31 u32 u33 u34 u35 u36 u37 u38 u39 u40 u41 u42 u43 u44 u45 u46 u47 u48 u49 u50 u51 u52 u53 u54 u55 u56 u57 u58 u59 u60 u61 u62 u63 u64 u65 u66 u67 u68 u69 u70 u71 u72 u73 u74 u75 u76 u77 u78 u79 u80 u81 u82 u83 u84 u85 u86 u87 u88 u89 u90 u91 u92 u93 u94 u95 u96 u97 u98 u99 u100 u101 u102 u103 u104 u105 u106 u107 u108 u109 u110 u111 u112 u113 u114 u115 u116 u117 u118 u119 u120 u121 u122 u123 u124 u125 u126 u127 u128 u129 u130 u131 u132 u133 u134 u135 u136 u137 u138 u139 u140 u141 u142 u143 u144 u145 u146 u147 u148 u149 u150 u151 u152 u153 u154 u155 u156 u157 u158 u159 u160 u161 u162 u163 u164 u165 u166 u167 u168 u169 u170 u171 u172 u173 u174 u175 u176 u177 u178 u179 u180 u181 u182 u183 u184 u185 u186 u187 u188 u189 u190 u191 u192 u193 u194 u195 u196 u197 u198 u199 u200 u201 u202 u203 u204 u205 u206 u207 u208 u209 u210 u211 u212 u213 u214 u215 u216 u217 u218 u219 u220 u221 u222 u223 u224 u225 u226 u227 u228 u229 u230 u231 u232 u233 u234 u235 u236 u237 u238 u239 u240 u241 u242 u243 u244 u245 u246 u247 u248 u249 u250 u251 u252 u253 u254 u255 u256 u257 u258 u259 u260 u261 u262 : Value) (o : Nat) (p : Nat × Nat) (ts : List Tk)
    (hrel : RefAt w l gk u5 wr o p ts) (hlt : o < l.length) (hsp : ¬ spaceB l[o] = true) (hop : ¬ openB (l.drop o) = true) (h1 : letB l[o] = false) (h95 : ¬ l[o] = 95) (h3 : digB l[o] = true) (nv : Int) (hv : valL 9223372036854775807 0 ((l.drop o).takeWhile digB) = some nv)
    (hJ : ∀ k a' w', RI w l c1 c14 c15 c16 c17 c18 c19 c20 c263 c264 c265 c266 c267 c268 c269 c270 c271 c272 c273 c274 c275 k a' w' → J k a' w') (hK : ∀ a' w', Handed J gk a' w' → K a' w') :
    Code.wp Try.prog refBody (Exit.then K (Exit.inBlock 0 (Exit.then K1 (bodyPost Try.prog Try.f9 (fun e w' => ReadPost w l e w'))))) ⟨#[.string (bt l), c1, u2, .pointer (some ⟨w.heap.size, 0, none⟩), .pointer (some ⟨w.heap.size + 1, 0, none⟩), u5, u6, u7, u8, u9, u10, u11, u12, u13, c14, c15, c16, c17, c18, c19, c20, u21, u22, u23, u24, u25, u26, u27, u28, u29, u30, u31, u32, u33, u34, u35, u36, u37, u38, u39, u40, u41, u42, u43, u44, u45, u46, u47, u48, u49, u50, u51, u52, u53, u54, u55, u56, u57, u58, u59, u60, u61, u62, u63, u64, u65, u66, u67, u68, u69, u70, u71, u72, u73, u74, u75, u76, u77, u78, u79, u80, u81, u82, u83, u84, u85, u86, u87, u88, u89, u90, u91, u92, u93, u94, u95, u96, u97, u98, u99, u100, u101, u102, u103, u104, u105, u106, u107, u108, u109, u110, u111, u112, u113, u114, u115, u116, u117, u118, u119, u120, u121, u122, u123, u124, u125, u126, u127, u128, u129, u130, u131, u132, u133, u134, u135, u136, u137, u138, u139, u140, u141, u142, u143, u144, u145, u146, u147, u148, u149, u150, u151, u152, u153, u154, u155, u156, u157, u158, u159, u160, u161, u162, u163, u164, u165, u166, u167, u168, u169, u170, u171, u172, u173, u174, u175, u176, u177, u178, u179, u180, u181, u182, u183, u184, u185, u186, u187, u188, u189, u190, u191, u192, u193, u194, u195, u196, u197, u198, u199, u200, u201, u202, u203, u204, u205, u206, u207, u208, u209, u210, u211, u212, u213, u214, u215, u216, u217, u218, u219, u220, u221, u222, u223, u224, u225, u226, u227, u228, u229, u230, u231, u232, u233, u234, u235, u236, u237, u238, u239, u240, u241, u242, u243, u244, u245, u246, u247, u248, u249, u250, u251, u252, u253, u254, u255, u256, u257, u258, u259, u260, u261, u262, c263, c264, c265, c266, c267, c268, c269, c270, c271, c272, c273, c274, c275], []⟩ wr := by
  obtain ⟨i0, hi, hz0, hz1, hz2⟩ := info_parts Try.infoTok
  obtain ⟨hs, hp, ho, hown, hbe, hcnt, hall, hmm⟩ := hrel
  obtain ⟨c0', c1', c2', c3'⟩ := rd_cells hs
  have hgz := rd_lt hs
  have hbd := adv_bd (l.take o) (1, 1) (by simp)
  rw [← hp] at hbd
  have htl : (l.take o).length ≤ o := List.length_take_le _ _
  simp only at hbd
  obtain ⟨bd1, bd2⟩ := hbd
  have bd3 : 1 ≤ p.2 := by rw [hp, advL_eq]; split <;> simp
  have H := Lib.hid hall
  have HS := Lib.hid hs
  have HP := Lib.hid hp
  have HO := Lib.hid hown
  have HE := Lib.hid hbe
  have HMM := Lib.hid hmm
  clear hall hs hp hown hbe hmm
  have hd := List.drop_eq_getElem_cons hlt
  have HD := Lib.hid hd
  clear hd
  have hb8 : (l[o].toNat : Int) ≤ 255 := by have := l[o].toNat_lt; omega
  have hv0 := Lib.hid hv
  clear hv
  have hsp' : spaceB l[o] = false := by simpa using hsp
  have q1 : ((l[o].toNat : Int) == 32) = false := byte_ne (b := 32) (fun e => by rw [e] at hsp'; exact absurd hsp' (by decide))
  have q2 : ((l[o].toNat : Int) == 10) = false := byte_ne (b := 10) (fun e => by rw [e] at hsp'; exact absurd hsp' (by decide))
  have hop' : openB (l.drop o) = false := by simpa using hop
  have r12 : ((l[o].toNat : Int) == 123) = false ∨ (((l[o].toNat : Int) == 123) = true ∧ ¬ o + 1 < l.length) ∨ (((l[o].toNat : Int) == 123) = true ∧ ∃ h2 : o + 1 < l.length, ((l[o + 1].toNat : Int) == 45) = false) := by
    by_cases e : l[o] = 123
    · by_cases h2 : o + 1 < l.length
      · refine .inr (.inr ⟨by rw [e]; rfl, h2, byte_ne (b := 45) ?_⟩)
        intro e2
        rw [HD.out, List.drop_eq_getElem_cons h2, e, e2] at hop'
        simp [openB, List.isPrefixOf] at hop'
      · exact .inr (.inl ⟨by rw [e]; rfl, h2⟩)
    · exact .inl (byte_ne e)
  have g95 : ((l[o].toNat : Int) == 95) = false := byte_ne h95
  have r1 : ((l[o].toNat : Int) == 123) = false := byte_ne (b := 123) (fun e => by rw [e] at h3; exact absurd h3 (by decide))
  have hsy : symB l[o] = false := sym_dig h3
  have hgap : gapL (l.drop o) = some 0 := by rw [HD.out]; rw [HD.out] at hop'; exact gap_none hsp' hop' (line_zero hsy)
  obtain ⟨txt, htx⟩ : ∃ txt, txt = (l.drop o).takeWhile digB := ⟨_, rfl⟩
  have hda : txt.all digB = true := by rw [htx]; exact all_takeWhile _ _
  have ht : tokG (l[o] :: l.drop (o + 1)) = intG (l[o] :: l.drop (o + 1)) := by
    rw [tokG_cons, if_neg (by simp [h1, h95]), if_pos h3]
  have hig : intG (l[o] :: l.drop (o + 1)) = match valL 9223372036854775807 0 txt with | none => badG 12 | some n => { speltG 5 txt with n := n } := by
    have e : (l[o] :: l.drop (o + 1)).takeWhile digB = txt := by rw [← HD.out, ← htx]
    unfold intG
    rw [e]
    rfl
  have hn1 : 1 ≤ txt.length := by rw [htx, HD.out, tw_cons h3]; simp
  have hn2 : o + txt.length ≤ l.length := by
    rw [htx]
    have := takeWhile_len digB (l.drop o)
    simp at this
    omega
  have hxe : valL 9223372036854775807 0 txt = none → lx (l.drop o) p = .error ⟨p.1, p.2, 12⟩ := fun hv => by
    rw [hv] at hig
    simp only at hig
    rw [HD.out] at hgap ⊢
    rw [lx_bad hgap (by rw [ht, hig]; simp [badG]), ht, hig]
    rfl
  have hxo : ∀ n, valL 9223372036854775807 0 txt = some n → lx (l.drop o) p = (lx ((l.drop o).drop txt.length) (advL p ((l.drop o).take txt.length))).map ((⟨5, txt, n, p.1, p.2⟩ : Tk) :: ·) := fun n hv => by
    rw [hv] at hig
    simp only at hig
    rw [HD.out] at hgap ⊢
    rw [lx_tok hgap (by rw [ht, hig]; rfl), ht, hig]
    rfl
  have hex : (bt l).extract o (o + txt.length) = bt txt := by
    rw [bt_extract, show o + txt.length - o = txt.length from by omega, htx, ← tw_take2]
  have HXe := Lib.hid hxe
  have HXo := Lib.hid hxo
  have HTx := Lib.hid htx
  have HDa := Lib.hid hda
  clear hxe hxo hgap hsp hop hop' r12 ht htx hsy hig h95 hda
  have i1 : (o : Int) + (txt.length : Int) ≤ (l.length : Int) := by omega
  have i2 : (o : Int) ≤ (o : Int) + (txt.length : Int) := by omega
  have HVal := Lib.hid (show valL 9223372036854775807 0 txt = some nv by rw [HTx.out]; exact hv0.out)
  conv => arg 2; whnf
  go_wp2
  go_region
  go_wp2_with fail
  refine (refLetter_any _ _).mono ?_
  rintro e w' ⟨rfl, rfl⟩
  rw [h1]
  go_wp2_with fail
  refine (refDigit_any _ _).mono ?_
  rintro e w' ⟨rfl, rfl⟩
  rw [h3]
  go_wp2_with fail
  refine (refRow_any _ (w.heap.size + 1) l o p 1 (by omega) (by exact (ref_below HS.out HO.out HE.out (by exact (blw_alloc (Below.refl _ _) _).drew)).1) (by omega) h).mono ?_
  rintro e w2 ⟨rfl, m, rfl⟩
  rw [show ((l.drop o).takeWhile (goesB 1)).length = txt.length from by rw [HTx.out]; rfl]
  go_wp2
  go_region
  go_wp2
  generalize hWW : World.drew (World.setCell (World.setCell _ _ _) _ _) = W
  have q5 : T5 W wr.heap.size 5 txt 0 p := by
    rw [← hWW]
    refine ⟨?_, ?_, ?_, ?_, ?_, fun i => ?_, ?_⟩ <;> simp [go_sem]
  have qB : Below wr.heap.size wr W := by rw [← hWW]; exact (blw_set (blw_set (below_drewN' (blw_alloc (Below.refl _ _) _) _) _ _) _ _).drew
  have QB := Lib.hid qB
  have Q5 := Lib.hid q5
  clear qB q5 hWW
  obtain ⟨WO, rfl⟩ : ∃ WO : World, WO = wr := ⟨wr, rfl⟩
  go_loopw [10] (fun i wq => DigRel WO txt p i wq) (fun i _ => txt.length - (intOf i).toNat)
  case atStart => exact ⟨0, 0, Nat.zero_le _, rfl, Int.le_refl _, by omega, rfl, Q5.out, QB.out⟩
  case round =>
    obtain ⟨k, n, hk, rfl, hn0, hnm, hval, h5q, hbq⟩ := hrel
    have H5Q := Lib.hid h5q
    obtain ⟨t0, t1, t2, t3, t4, tf, tz⟩ := h5q
    have HV := Lib.hid hval
    have hB3 := Lib.hid hbq
    have tf2 := tf 2
    clear hval hbq tf Q5 QB
    by_cases hkl : k < txt.length
    · have hdk : digB txt[k] = true := List.all_eq_true.1 HDa.out _ (List.getElem_mem hkl)
      obtain ⟨d1, d2, d3⟩ := dig_of _ hdk
      have D3 := Lib.hid d3
      clear d3 hdk
      by_cases hbig : (9223372036854775807 - ((txt[k].toNat : Int) - 48)) / 10 < n
      · exact absurd (show valL 9223372036854775807 0 txt = none by rw [HV.out, valL_drop _ n txt k hkl, D3.out, if_pos hbig]) (by rw [HVal.out]; exact fun e => by cases e)
      · go_wp2
        go_roundw
        case rel => exact ⟨k + 1, 10 * n + ((txt[k].toNat : Int) - 48), by omega, by go_num, by omega, by omega, by rw [HV.out, valL_drop _ n txt k hkl, D3.out, if_neg hbig, Int.mul_comm n 10], t5_set H5Q.out _, blw_set hB3.out _ _⟩
        case measure => simp [intOf]; omega
    · have HX := Lib.hid (HXo.out n (by rw [HV.out, List.drop_of_length_le (by omega)]; rfl))
      go_wp2_with fail
      refine (refOn_any _ (w.heap.size + 1) l o p (txt.length) (by exact (ref_below HS.out HO.out HE.out (by exact (hB3.out))).1) (by omega) h (by omega) (by omega) bd3).mono ?_
      rintro e w5 ⟨rfl, hrd, hgr⟩
      have hk5 : ∀ j, w5.cell? ⟨WO.heap.size, j, none⟩ = _ := fun j => World.cell?_of_block (a := ⟨WO.heap.size, j, none⟩) (hgr.block _ (by show WO.heap.size < _; first | (simp; done) | omega | (simp; omega)) (ne_blk hgz))
      have hz5 := hgr.size
      have HRD := Lib.hid hrd
      have HGR := Lib.hid hgr
      obtain ⟨o5, b5⟩ := read_keep (ref_below HS.out HO.out HE.out (by exact (hB3.out))).2.1 (ref_below HS.out HO.out HE.out (by exact (hB3.out))).2.2 hgr
      have HO5 := Lib.hid o5
      have hz5' := rd_lt hrd
      clear hrd hgr o5 b5
      go_wp2_with (at_builtin; refine wpList_append_own _ rfl _ _ 22 rfl (w.heap.size + 2) 33 i0 _ 5 48 Try.underToks hi hz0 hz1 hz2 rfl (by decide) _ _ _ rfl (HO5.out.alloc _) ⟨w5.heap.size, 0, none⟩ 1 1 (tokCells ⟨5, txt, n, p.1, p.2⟩) rfl rfl (tok_at w5 ⟨5, txt, n, p.1, p.2⟩ _ _ rfl) (tok_one _) (by simp [maxLen]; omega) (by omega) (by simp; omega) ?_; intro v' w6 hown' hgrow _)
      have R := Lib.hid (ref_tok HS.out HP.out HO.out HE.out (by exact (hB3.out)) HRD.out HGR.out (by omega) (by omega) hcnt H.out HX.out hgrow hown')
      clear hown' hgrow hk5
      go_wp2
      refine Handed.intro (l.length - o) HMM.out ?_
      refine hJ _ _ _ ?_
      unfold RI
      (repeat apply Exists.intro)
      exact ⟨R.out, rfl⟩
end

section
open Go.RowKit Lx
attribute [local go_sem] bt_size bt_get bt_list bt_toList bt_drop bt_take

set_option maxHeartbeats 4000000 in
set_option maxRecDepth 1000000 in
theorem cs_m0 (l : List UInt8) (w : World) (h : l.length ≤ 16384) (J : Nat → Act → World → Prop) (K K1 : Act → World → Prop) (gk : Nat) (wr : World) (c1 c14 c15 c16 c17 c18 c19 c20 c263 c264 c265 c266 c267 c268 c269 c270 c271 c272 c273 c274 c275 u2 u5 u6 u7 u8 u9 u10 u11 u12 u13 u21 u22 u23 u24 u25 u26 u27 u28 u29 u30 u31 u32 u33 u34 u35 u36 u37 u38 u39 u40 u41 u42 u43 u44 u45 u46 u47 u48 u49 u50 u51 u52 u53 u54 u55 u56 u57 u58 u59 u60 u61 u62 u63 u64 u65 u66 u67 u68 u69 u70 u71 u72 u73 u74 u75 u76 u77 u78 u79 u80 u81 u82 u83 u84 u85 u86 u87 u88 u89 u90 u91 u92 u93 u94 u95 u96 u97 u98 u99 u100 u101 u102 u103 u104 u105 u106 u107 u108 u109 u110 u111 u112 u113 u114 u115 u116 u117 u118 u119 u120 u121 u122 u123 u124 u125 u126 u127 u128 u129 u130 u131 u132 u133 u134 u135 u136 u137 u138 u139 u140 u141 u142 u143 u144 u145 u146 u147 u148 u149 u150 u151 u152 u153 u154 u155 u156 u157 u158 u159 u160 u161 u162 u163 u164 u165 u166 u167 u168 u169 u170 u171 u172 u173 u174 u175 u176 u177 u178 u179 u180 u181 u182 u183 u184 u185 u186 u187 u188 u189 u190 u191 u192 u193 u194 u195 u196 u197 u198 u199 u200 u201 u202 u203 u204 u205 u206 u207 u208 u209 u210 u211 u212 u213 u214 u215 u216 u217 u218 u219 u220 u221 u222 u223 u224 u225 u226 u227 u228 u229 u230 u231 u232 u233 u234 u235 u236 u237 u238 u239 u240 u241 u242 u243 u244 u245 u246 u247 u248 u249 u250 u251 u252 u253 u254 u255 u256 u257 u258 u259 u260 u261 u262 : Value) (o : Nat) (p : Nat × Nat) (ts : List Tk)
    (hrel : RefAt w l gk u5 wr o p ts) (hlt : o < l.length) (hsp : ¬ spaceB l[o] = true) (hop : ¬ openB (l.drop o) = true) (h1 : letB l[o] = false) (h95 : ¬ l[o] = 95) (h3 : digB l[o] = false) (h4 : symB l[o] = true) (hA : ((l.drop o).takeWhile symB).all dashB = true) (hB : 2 ≤ ((l.drop o).takeWhile symB).length)
    (hJ : ∀ k a' w', RI w l c1 c14 c15 c16 c17 c18 c19 c20 c263 c264 c265 c266 c267 c268 c269 c270 c271 c272 c273 c274 c275 k a' w' → J k a' w') (hK : ∀ a' w', Handed J gk a' w' → K a' w') :
    Code.wp Try.prog refBody (Exit.then K (Exit.inBlock 0 (Exit.then K1 (bodyPost Try.prog Try.f9 (fun e w' => ReadPost w l e w'))))) ⟨#[.string (bt l), c1, u2, .pointer (some ⟨w.heap.size, 0, none⟩), .pointer (some ⟨w.heap.size + 1, 0, none⟩), u5, u6, u7, u8, u9, u10, u11, u12, u13, c14, c15, c16, c17, c18, c19, c20, u21, u22, u23, u24, u25, u26, u27, u28, u29, u30, u31, u32, u33, u34, u35, u36, u37, u38, u39, u40, u41, u42, u43, u44, u45, u46, u47, u48, u49, u50, u51, u52, u53, u54, u55, u56, u57, u58, u59, u60, u61, u62, u63, u64, u65, u66, u67, u68, u69, u70, u71, u72, u73, u74, u75, u76, u77, u78, u79, u80, u81, u82, u83, u84, u85, u86, u87, u88, u89, u90, u91, u92, u93, u94, u95, u96, u97, u98, u99, u100, u101, u102, u103, u104, u105, u106, u107, u108, u109, u110, u111, u112, u113, u114, u115, u116, u117, u118, u119, u120, u121, u122, u123, u124, u125, u126, u127, u128, u129, u130, u131, u132, u133, u134, u135, u136, u137, u138, u139, u140, u141, u142, u143, u144, u145, u146, u147, u148, u149, u150, u151, u152, u153, u154, u155, u156, u157, u158, u159, u160, u161, u162, u163, u164, u165, u166, u167, u168, u169, u170, u171, u172, u173, u174, u175, u176, u177, u178, u179, u180, u181, u182, u183, u184, u185, u186, u187, u188, u189, u190, u191, u192, u193, u194, u195, u196, u197, u198, u199, u200, u201, u202, u203, u204, u205, u206, u207, u208, u209, u210, u211, u212, u213, u214, u215, u216, u217, u218, u219, u220, u221, u222, u223, u224, u225, u226, u227, u228, u229, u230, u231, u232, u233, u234, u235, u236, u237, u238, u239, u240, u241, u242, u243, u244, u245, u246, u247, u248, u249, u250, u251, u252, u253, u254, u255, u256, u257, u258, u259, u260, u261, u262, c263, c264, c265, c266, c267, c268, c269, c270, c271, c272, c273, c274, c275], []⟩ wr := by
  obtain ⟨i0, hi, hz0, hz1, hz2⟩ := info_parts Try.infoTok
  obtain ⟨hs, hp, ho, hown, hbe, hcnt, hall, hmm⟩ := hrel
  obtain ⟨c0', c1', c2', c3'⟩ := rd_cells hs
  have hgz := rd_lt hs
  have hbd := adv_bd (l.take o) (1, 1) (by simp)
  rw [← hp] at hbd
  have htl : (l.take o).length ≤ o := List.length_take_le _ _
  simp only at hbd
  obtain ⟨bd1, bd2⟩ := hbd
  have bd3 : 1 ≤ p.2 := by rw [hp, advL_eq]; split <;> simp
  have H := Lib.hid hall
  have HS := Lib.hid hs
  have HP := Lib.hid hp
  have HO := Lib.hid hown
  have HE := Lib.hid hbe
  have HMM := Lib.hid hmm
  clear hall hs hp hown hbe hmm
  have hd := List.drop_eq_getElem_cons hlt
  have HD := Lib.hid hd
  clear hd
  have hb8 : (l[o].toNat : Int) ≤ 255 := by have := l[o].toNat_lt; omega
  have HA := Lib.hid hA
  have H2 := Lib.hid hB
  clear hA hB
  have hsp' : spaceB l[o] = false := by simpa using hsp
  have q1 : ((l[o].toNat : Int) == 32) = false := byte_ne (b := 32) (fun e => by rw [e] at hsp'; exact absurd hsp' (by decide))
  have q2 : ((l[o].toNat : Int) == 10) = false := byte_ne (b := 10) (fun e => by rw [e] at hsp'; exact absurd hsp' (by decide))
  have hop' : openB (l.drop o) = false := by simpa using hop
  have r12 : ((l[o].toNat : Int) == 123) = false ∨ (((l[o].toNat : Int) == 123) = true ∧ ¬ o + 1 < l.length) ∨ (((l[o].toNat : Int) == 123) = true ∧ ∃ h2 : o + 1 < l.length, ((l[o + 1].toNat : Int) == 45) = false) := by
    by_cases e : l[o] = 123
    · by_cases h2 : o + 1 < l.length
      · refine .inr (.inr ⟨by rw [e]; rfl, h2, byte_ne (b := 45) ?_⟩)
        intro e2
        rw [HD.out, List.drop_eq_getElem_cons h2, e, e2] at hop'
        simp [openB, List.isPrefixOf] at hop'
      · exact .inr (.inl ⟨by rw [e]; rfl, h2⟩)
    · exact .inl (byte_ne e)
  have g95 : ((l[o].toNat : Int) == 95) = false := byte_ne h95
  have r1 : ((l[o].toNat : Int) == 123) = false := byte_ne (b := 123) (fun e => by rw [e] at h4; exact absurd h4 (by decide))
  obtain ⟨txt, htx⟩ : ∃ txt, txt = (l.drop o).takeWhile symB := ⟨_, rfl⟩
  have hn1 : 1 ≤ txt.length := by rw [htx, HD.out, tw_cons h4]; simp
  have hn2 : o + txt.length ≤ l.length := by
    rw [htx]
    have := takeWhile_len symB (l.drop o)
    simp at this
    omega
  have hex : (bt l).extract o (o + txt.length) = bt txt := by
    rw [bt_extract, show o + txt.length - o = txt.length from by omega, htx, ← tw_take2]
  have hhd : txt.headD 0 = l[o] := by rw [htx, HD.out, tw_cons h4]; rfl
  have hgp : gapL (l.drop o) = some (lineL (l.drop o)) := by
    unfold gapL
    rw [if_pos (by rw [HD.out]; simp only [List.takeWhile_cons, hsp']; rfl), if_neg (by rw [hop']; exact Bool.false_ne_true)]
  have hli : lineL (l.drop o) = if txt.length < 2 || !(txt.takeWhile dashB == txt) then 0 else ((l.drop o).takeWhile nlB).length := by
    unfold lineL
    rw [← htx]
  have HGp := Lib.hid hgp
  have HLi := Lib.hid hli
  have HTx := Lib.hid htx
  have HHd := Lib.hid hhd
  clear hsp hop hop' r12 htx hhd hgp hli
  have i1 : (o : Int) + (txt.length : Int) ≤ (l.length : Int) := by omega
  have i2 : (o : Int) ≤ (o : Int) + (txt.length : Int) := by omega
  conv => arg 2; whnf
  go_wp2
  go_region
  go_wp2_with fail
  refine (refLetter_any _ _).mono ?_
  rintro e w' ⟨rfl, rfl⟩
  rw [h1]
  go_wp2_with fail
  refine (refDigit_any _ _).mono ?_
  rintro e w' ⟨rfl, rfl⟩
  rw [h3]
  go_wp2_with fail
  refine (refMark_any _ _).mono ?_
  rintro e w' ⟨rfl, rfl⟩
  rw [h4]
  go_wp2_with fail
  refine (refRow_any _ (w.heap.size + 1) l o p 2 (by omega) (by exact (ref_below HS.out HO.out HE.out (by exact (blw_alloc (Below.refl _ _) _).drew)).1) (by omega) h).mono ?_
  rintro e w2 ⟨rfl, m, rfl⟩
  rw [show ((l.drop o).takeWhile (goesB 2)).length = txt.length from by rw [HTx.out]; rfl]
  go_wp2
  go_region
  go_wp2
  generalize hWW : World.setCell (World.drewN _ _) _ _ = W
  have q5 : T5 W wr.heap.size 0 txt 0 p := by
    rw [← hWW]
    refine ⟨?_, ?_, ?_, ?_, ?_, fun i => ?_, ?_⟩ <;> simp [go_sem]
  have qB : Below wr.heap.size wr W := by rw [← hWW]; exact blw_set (below_drewN' (blw_alloc (Below.refl _ _) _) _) _ _
  have QB := Lib.hid qB
  have Q5 := Lib.hid q5
  obtain ⟨t0, t1, t2, t3, t4, tf, tz⟩ := q5
  have tf0 := tf 0
  clear qB hWW tf
  go_loop [12, 13] (fun b i => ∃ k : Nat, k ≤ txt.length ∧ i = .int .i64 k ∧ b = .bool ((txt.take k).all dashB)) (fun _ i => txt.length - (intOf i).toNat)
  case atStart => exact ⟨0, Nat.zero_le _, rfl, rfl⟩
  case round =>
    obtain ⟨k, hk, rfl, rfl⟩ := hrel
    by_cases hkl : k < txt.length
    · have hsn : (txt.take (k + 1)).all dashB = ((txt.take k).all dashB && dashB txt[k]) := by
        rw [List.take_succ_eq_append_getElem hkl, List.all_append]
        simp
      have HSn := Lib.hid hsn
      clear hsn
      cases hb : (txt.take k).all dashB with
      | true =>
        by_cases hda : txt[k] = 45
        · have g45 : ((txt[k].toNat : Int) == 45) = true := by rw [hda]; rfl
          have hdb : dashB txt[k] = true := by rw [hda]; rfl
          have HDb := Lib.hid hdb
          have HBb := Lib.hid hb
          clear hda hdb hb
          go_wp2
          go_round
          case rel => exact ⟨k + 1, by omega, by go_num, by rw [HSn.out, HBb.out, HDb.out]; rfl⟩
          case measure => simp [intOf]; omega
        · have g45 : ((txt[k].toNat : Int) == 45) = false := byte_ne hda
          have hdb : dashB txt[k] = false := by simp [dashB, hda]
          have HDb := Lib.hid hdb
          have HBb := Lib.hid hb
          clear hda hdb hb
          go_wp2
          go_round
          case rel => exact ⟨k + 1, by omega, by go_num, by rw [HSn.out, HBb.out, HDb.out]; rfl⟩
          case measure => simp [intOf]; omega
      | false =>
        have HBb := Lib.hid hb
        clear hb
        go_wp2
        go_round
        case rel => exact ⟨k + 1, by omega, by go_num, by rw [HSn.out, HBb.out]; rfl⟩
        case measure => simp [intOf]; omega
    · rw [List.take_of_length_le (by omega)]
      have ha : txt.all dashB = true := by rw [HTx.out]; exact HA.out
      have h2l : 2 ≤ txt.length := by rw [HTx.out]; exact H2.out
      have hli : lineL (l.drop o) = ((l.drop o).takeWhile nlB).length := by
        rw [HLi.out, if_neg (by simp [takeWhile_all txt ha]; omega)]
      obtain ⟨L, hL⟩ : ∃ L, L = ((l.drop o).takeWhile nlB).length := ⟨_, rfl⟩
      have hL1 : 1 ≤ L := by
        rw [hL, HD.out, tw_cons (sym_nl h4)]
        simp
      have hL2 : o + L ≤ l.length := by
        have := takeWhile_len nlB (l.drop o)
        simp at this
        omega
      obtain ⟨L', hL'⟩ : ∃ L', L = L' + 1 := ⟨L - 1, by omega⟩
      have hx : lx (l.drop o) p = lx ((l.drop o).drop L) (advL p ((l.drop o).take L)) := by
        rw [hL']
        exact lx_gap (by rw [HGp.out, hli, ← hL, hL'])
      have HX := Lib.hid hx
      have HL := Lib.hid hL
      rw [ha]
      clear hx hli hL hL' ha
      go_wp2_with fail
      refine (refRow_any _ (w.heap.size + 1) l o p 3 (by omega) (by exact (ref_below HS.out HO.out HE.out QB.out).1) (by omega) h).mono ?_
      rintro e w3 ⟨rfl, m3, rfl⟩
      rw [show ((l.drop o).takeWhile (goesB 3)).length = L from by rw [HL.out]; rfl]
      go_wp2_with fail
      refine (refOn_any _ (w.heap.size + 1) l o p L (by exact (ref_below HS.out HO.out HE.out (below_drewN' QB.out m3)).1) hL2 h (by omega) (by omega) bd3).mono ?_
      rintro e w4 ⟨rfl, hrd, hgr⟩
      have R := Lib.hid (ref_gap HS.out HP.out HO.out HE.out (by exact below_drewN' QB.out m3) hrd hgr hL1 hL2 hcnt H.out HX.out)
      clear hrd hgr
      go_wp2
      refine Handed.intro (l.length - o) HMM.out ?_
      refine hJ _ _ _ ?_
      unfold RI
      (repeat apply Exists.intro)
      exact ⟨R.out, rfl⟩
end
end Go.Proofs.Ytbjbmehkcfpahaa
