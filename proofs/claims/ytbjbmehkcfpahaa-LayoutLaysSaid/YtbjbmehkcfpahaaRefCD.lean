/- One way through a round of the reference's loop: an operator (kind 8). No condition but the length that every string keeps. -/
import Derived.Test.YtbjbmehkcfpahaaRefLaws
namespace Go.Proofs.Ytbjbmehkcfpahaa
section
open Go.RowKit Lx
attribute [local go_sem] bt_size bt_get bt_list bt_toList bt_drop bt_take

set_option maxHeartbeats 4000000 in
set_option maxRecDepth 1000000 in
theorem cs_m8f (l : List UInt8) (w : World) (h : l.length ≤ 16384) (J : Nat → Act → World → Prop) (K K1 : Act → World → Prop) (gk : Nat) (wr : World) (c1 c14 c15 c16 c17 c18 c19 c20 c263 c264 c265 c266 c267 c268 c269 c270 c271 c272 c273 c274 c275 u2 u5 u6 u7 u8 u9 u10 u11 u12 u13 u21 u22 u23 u24 u25 u26 u27 u28 u29 u30 u31 u32 u33 u34 u35 u36 u37 u38 u39 u40 u41 u42 u43 u44 u45 u46 u47 u48 u49 u50 u51 u52 u53 u54 u55 u56 u57 u58 u59 u60 u61 u62 u63 u64 u65 u66 u67 u68 u69 u70 u71 u72 u73 u74 u75 u76 u77 u78 u79 u80 u81 u82 u83 u84 u85 u86 u87 u88 u89 u90 u91 u92 u93 u94 u95 u96 u97 u98 u99 u100 u101 u102 u103 u104 u105 u106 u107 u108 u109 u110 u111 u112 u113 u114 u115 u116 u117 u118 u119 u120 u121 u122 u123 u124 u125 u126 u127 u128 u129 u130 u131 u132 u133 u134 u135 u136 u137 u138 u139 u140 u141 u142 u143 u144 u145 u146 u147 u148 u149 u150 u151 u152 u153 u154 u155 u156 u157 u158 u159 u160 u161 u162 u163 u164 u165 u166 u167 u168 u169 u170 u171 u172 u173 u174 u175 u176 u177 u178 u179 u180 u181 u182 u183 u184 u185 u186 u187 u188 u189 u190 u191 u192 u193 u194 u195 u196 u197 u198 u199 u200 u201 u202 u203 u204 u205 u206 u207 u208 u209 u210 u211 u212 u213 u214 u215 u216 u217 u218 u219 u220 u221 u222 u223 u224 u225 u226 u227 u228 u229 u230 u231 u232 u233 u234 u235 u236 u237 u238 u239 u240 u241 u242 u243 u244 u245 u246 u247 u248 u249 u250 u251 u252 u253 u254 u255 u256 u257 u258 u259 u260 u261 u262 : Value) (o : Nat) (p : Nat × Nat) (ts : List Tk)
    (hrel : RefAt w l gk u5 wr o p ts) (hlt : o < l.length) (hsp : ¬ spaceB l[o] = true) (hop : ¬ openB (l.drop o) = true) (h1 : letB l[o] = false) (h95 : ¬ l[o] = 95) (h3 : digB l[o] = false) (h4 : symB l[o] = true) (hA : ((l.drop o).takeWhile symB).all dashB = false) (hC : ¬ (((l.drop o).takeWhile symB).all dashB = true ∧ 2 ≤ ((l.drop o).takeWhile symB).length)) (hon0 : oneB signsL ((l.drop o).takeWhile symB) = true) 
    (hJ : ∀ k a' w', RI w l c1 c14 c15 c16 c17 c18 c19 c20 c263 c264 c265 c266 c267 c268 c269 c270 c271 c272 c273 c274 c275 k a' w' → J k a' w') (hK : ∀ a' w', Handed J gk a' w' → K a' w') :
    Code.wp Try.prog refBody (Exit.then K (Exit.inBlock 0 (Exit.then K1 (bodyPost Try.prog Try.f9 (fun e w' => ReadPost w l e w'))))) ⟨#[.string (bt l), c1, u2, .pointer (some ⟨w.heap.size, 0, none⟩), .pointer (some ⟨w.heap.size + 1, 0, none⟩), u5, u6, u7, u8, u9, u10, u11, u12, u13, c14, c15, c16, c17, c18, c19, c20, u21, u22, u23, u24, u25, u26, u27, u28, u29, u30, u31, u32, u33, u34, u35, u36, u37, u38, u39, u40, u41, u42, u43, u44, u45, u46, u47, u48, u49, u50, u51, u52, u53, u54, u55, u56, u57, u58, u59, u60, u61, u62, u63, u64, u65, u66, u67, u68, u69, u70, u71, u72, u73, u74, u75, u76, u77, u78, u79, u80, u81, u82, u83, u84, u85, u86, u87, u88, u89, u90, u91, u92, u93, u94, u95, u96, u97, u98, u99, u100, u101, u102, u103, u104, u105, u106, u107, u108, u109, u110, u111, u112, u113, u114, u115, u116, u117, u118, u119, u120, u121, u122, u123, u124, u125, u126, u127, u128, u129, u130, u131, u132, u133, u134, u135, u136, u137, u138, u139, u140, u141, u142, u143, u144, u145, u146, u147, u148, u149, u150, u151, u152, u153, u154, u155, u156, u157, u158, u159, u160, u161, u162, u163, u164, u165, u166, u167, u168, u169, u170, u171, u172, u173, u174, u175, u176, u177, u178, u179, u180, u181, u182, u183, u184, u185, u186, u187, u188, u189, u190, u191, u192, u193, u194, u195, u196, u197, u198, u199, u200, u201, u202, u203, u204, u205, u206, u207, u208, u209, u210, u211, u212, u213, u214, u215, u216, u217, u218, u219, u220, u221, u222, u223, u224, u225, u226, u227, u228, u229, u230, u231, u232, u233, u234, u235, u236, u237, u238, u239, u240, u241, u242, u243, u244, u245, u246, u247, u248, u249, u250, u251, u252, u253, u254, u255, u256, u257, u258, u259, u260, u261, u262, c263, c264, c265, c266, c267, c268, c269, c270, c271, c272, c273, c274, c275], []⟩ wr := by
  obtain ⟨i0, hi, hz0, hz1, hz2⟩ := info_parts Try.infoTok
  obtain ⟨hs, hp, ho, hown, hbe, hcnt, hall, hmm⟩ := hrel
  obtain ⟨c0', c1', c2', c3'⟩ := rd_cells hs
  have hgz := rd_lt hs
  have hbd := adv_bd (l.take o) (1, 1) (by simp)
  rw [← hp] at hbd
  have htl : (l.take o).length ≤ o := List.length_take_le _ _
  simp only at hbd
  obtain ⟨bd1, bd2⟩ := hbd
  have bd3 : 1 ≤ p.2 := by rw [hp, advL_eq]; split <;> simp
  have H := Lib.hid hall
  have HS := Lib.hid hs
  have HP := Lib.hid hp
  have HO := Lib.hid hown
  have HE := Lib.hid hbe
  have HMM := Lib.hid hmm
  clear hall hs hp hown hbe hmm
  have hd := List.drop_eq_getElem_cons hlt
  have HD := Lib.hid hd
  clear hd
  have hb8 : (l[o].toNat : Int) ≤ 255 := by have := l[o].toNat_lt; omega
  have HA := Lib.hid hA
  have HC := Lib.hid hC
  clear hA hC
  have hon0_H := Lib.hid hon0
  clear hon0
  have hsp' : spaceB l[o] = false := by simpa using hsp
  have q1 : ((l[o].toNat : Int) == 32) = false := byte_ne (b := 32) (fun e => by rw [e] at hsp'; exact absurd hsp' (by decide))
  have q2 : ((l[o].toNat : Int) == 10) = false := byte_ne (b := 10) (fun e => by rw [e] at hsp'; exact absurd hsp' (by decide))
  have hop' : openB (l.drop o) = false := by simpa using hop
  have r12 : ((l[o].toNat : Int) == 123) = false ∨ (((l[o].toNat : Int) == 123) = true ∧ ¬ o + 1 < l.length) ∨ (((l[o].toNat : Int) == 123) = true ∧ ∃ h2 : o + 1 < l.length, ((l[o + 1].toNat : Int) == 45) = false) := by
    by_cases e : l[o] = 123
    · by_cases h2 : o + 1 < l.length
      · refine .inr (.inr ⟨by rw [e]; rfl, h2, byte_ne (b := 45) ?_⟩)
        intro e2
        rw [HD.out, List.drop_eq_getElem_cons h2, e, e2] at hop'
        simp [openB, List.isPrefixOf] at hop'
      · exact .inr (.inl ⟨by rw [e]; rfl, h2⟩)
    · exact .inl (byte_ne e)
  have g95 : ((l[o].toNat : Int) == 95) = false := byte_ne h95
  have r1 : ((l[o].toNat : Int) == 123) = false := byte_ne (b := 123) (fun e => by rw [e] at h4; exact absurd h4 (by decide))
  obtain ⟨txt, htx⟩ : ∃ txt, txt = (l.drop o).takeWhile symB := ⟨_, rfl⟩
  have hn1 : 1 ≤ txt.length := by rw [htx, HD.out, tw_cons h4]; simp
  have hn2 : o + txt.length ≤ l.length := by
    rw [htx]
    have := takeWhile_len symB (l.drop o)
    simp at this
    omega
  have hex : (bt l).extract o (o + txt.length) = bt txt := by
    rw [bt_extract, show o + txt.length - o = txt.length from by omega, htx, ← tw_take2]
  have hhd : txt.headD 0 = l[o] := by rw [htx, HD.out, tw_cons h4]; rfl
  have hgp : gapL (l.drop o) = some (lineL (l.drop o)) := by
    unfold gapL
    rw [if_pos (by rw [HD.out]; simp only [List.takeWhile_cons, hsp']; rfl), if_neg (by rw [hop']; exact Bool.false_ne_true)]
  have hli : lineL (l.drop o) = if txt.length < 2 || !(txt.takeWhile dashB == txt) then 0 else ((l.drop o).takeWhile nlB).length := by
    unfold lineL
    rw [← htx]
  have HGp := Lib.hid hgp
  have HLi := Lib.hid hli
  have HTx := Lib.hid htx
  have HHd := Lib.hid hhd
  clear hsp hop hop' r12 htx hhd hgp hli
  have i1 : (o : Int) + (txt.length : Int) ≤ (l.length : Int) := by omega
  have i2 : (o : Int) ≤ (o : Int) + (txt.length : Int) := by omega
  conv => arg 2; whnf
  go_wp2
  go_region
  go_wp2_with fail
  refine (refLetter_any _ _).mono ?_
  rintro e w' ⟨rfl, rfl⟩
  rw [h1]
  go_wp2_with fail
  refine (refDigit_any _ _).mono ?_
  rintro e w' ⟨rfl, rfl⟩
  rw [h3]
  go_wp2_with fail
  refine (refMark_any _ _).mono ?_
  rintro e w' ⟨rfl, rfl⟩
  rw [h4]
  go_wp2_with fail
  refine (refRow_any _ (w.heap.size + 1) l o p 2 (by omega) (by exact (ref_below HS.out HO.out HE.out (by exact (blw_alloc (Below.refl _ _) _).drew)).1) (by omega) h).mono ?_
  rintro e w2 ⟨rfl, m, rfl⟩
  rw [show ((l.drop o).takeWhile (goesB 2)).length = txt.length from by rw [HTx.out]; rfl]
  go_wp2
  go_region
  go_wp2
  generalize hWW : World.setCell (World.drewN _ _) _ _ = W
  have q5 : T5 W wr.heap.size 0 txt 0 p := by
    rw [← hWW]
    refine ⟨?_, ?_, ?_, ?_, ?_, fun i => ?_, ?_⟩ <;> simp [go_sem]
  have qB : Below wr.heap.size wr W := by rw [← hWW]; exact blw_set (below_drewN' (blw_alloc (Below.refl _ _) _) _) _ _
  have QB := Lib.hid qB
  have Q5 := Lib.hid q5
  obtain ⟨t0, t1, t2, t3, t4, tf, tz⟩ := q5
  have tf0 := tf 0
  clear qB hWW tf
  go_loop [12, 13] (fun b i => ∃ k : Nat, k ≤ txt.length ∧ i = .int .i64 k ∧ b = .bool ((txt.take k).all dashB)) (fun _ i => txt.length - (intOf i).toNat)
  case atStart => exact ⟨0, Nat.zero_le _, rfl, rfl⟩
  case round =>
    obtain ⟨k, hk, rfl, rfl⟩ := hrel
    by_cases hkl : k < txt.length
    · have hsn : (txt.take (k + 1)).all dashB = ((txt.take k).all dashB && dashB txt[k]) := by
        rw [List.take_succ_eq_append_getElem hkl, List.all_append]
        simp
      have HSn := Lib.hid hsn
      clear hsn
      cases hb : (txt.take k).all dashB with
      | true =>
        by_cases hda : txt[k] = 45
        · have g45 : ((txt[k].toNat : Int) == 45) = true := by rw [hda]; rfl
          have hdb : dashB txt[k] = true := by rw [hda]; rfl
          have HDb := Lib.hid hdb
          have HBb := Lib.hid hb
          clear hda hdb hb
          go_wp2
          go_round
          case rel => exact ⟨k + 1, by omega, by go_num, by rw [HSn.out, HBb.out, HDb.out]; rfl⟩
          case measure => simp [intOf]; omega
        · have g45 : ((txt[k].toNat : Int) == 45) = false := byte_ne hda
          have hdb : dashB txt[k] = false := by simp [dashB, hda]
          have HDb := Lib.hid hdb
          have HBb := Lib.hid hb
          clear hda hdb hb
          go_wp2
          go_round
          case rel => exact ⟨k + 1, by omega, by go_num, by rw [HSn.out, HBb.out, HDb.out]; rfl⟩
          case measure => simp [intOf]; omega
      | false =>
        have HBb := Lib.hid hb
        clear hb
        go_wp2
        go_round
        case rel => exact ⟨k + 1, by omega, by go_num, by rw [HSn.out, HBb.out]; rfl⟩
        case measure => simp [intOf]; omega
    · rw [List.take_of_length_le (by omega)]
      have hcm : ¬ (txt.all dashB = true ∧ 2 ≤ txt.length) := by rw [HTx.out]; exact HC.out
      have hli : lineL (l.drop o) = 0 := by
        rw [HLi.out, if_pos (by
          simp only [Bool.or_eq_true, decide_eq_true_eq, Bool.not_eq_true', beq_eq_false_iff_ne]
          by_cases h2 : txt.length < 2
          · exact .inl h2
          · refine .inr (fun e => hcm ⟨?_, by omega⟩)
            rw [← e]
            exact all_takeWhile _ _)]
      have hgap : gapL (l.drop o) = some 0 := by rw [HGp.out, hli]
      have ht : tokG (l[o] :: l.drop (o + 1)) = speltG (operKindL txt) txt := by
        rw [tokG_cons, if_neg (by simp [h1, h95]), if_neg (by simp [h3]), if_pos h4, HTx.out, HD.out]
      have hx : lx (l.drop o) p = (lx ((l.drop o).drop txt.length) (advL p ((l.drop o).take txt.length))).map ((⟨operKindL txt, txt, 0, p.1, p.2⟩ : Tk) :: ·) := by
        rw [HD.out] at hgap ⊢
        rw [lx_tok hgap (by rw [ht]; rfl), ht]
        rfl
      have HX := Lib.hid hx
      clear hx hli hgap ht hcm h95
      rw [show txt.all dashB = false from by rw [HTx.out]; exact HA.out]
      go_wp2
      generalize hWW : World.setCell W _ _ = W2
      have q0 : W2.cell? ⟨wr.heap.size, 0, none⟩ = some (.int .i64 3) := by rw [← hWW]; simp [go_sem, t0]
      have q1' : W2.cell? ⟨wr.heap.size, 1, none⟩ = some (.string (bt txt)) := by rw [← hWW]; simp [go_sem, t1]
      have q2' : W2.cell? ⟨wr.heap.size, 2, none⟩ = some (.int .i64 0) := by rw [← hWW]; simp [go_sem, t2]
      have q3 : W2.cell? ⟨wr.heap.size, 3, none⟩ = some (.int .i64 (p.1 : Int)) := by rw [← hWW]; simp [go_sem, t3]
      have q4 : W2.cell? ⟨wr.heap.size, 4, none⟩ = some (.int .i64 (p.2 : Int)) := by rw [← hWW]; simp [go_sem, t4]
      have qf : W2.frozen? ⟨wr.heap.size, 0, none⟩ = false := by rw [← hWW]; simp [go_sem, tf0]
      have qz : wr.heap.size < W2.heap.size := by rw [← hWW]; simpa using tz
      have qB2 : Below wr.heap.size wr W2 := by rw [← hWW]; exact blw_set QB.out _ _
      have QB2 := Lib.hid qB2
      clear qB2 hWW t0 t1 t2 t3 t4 tf0
      go_region_held3 (fun w' => w'.cell? ⟨wr.heap.size, 1, none⟩ = some (.string (bt txt))) (go_keep)
        (first
          | (go_at_call 28; refine (refSigns_any _).mono ?_; rintro e w3 ⟨b3, rfl, hb31, hb32, hcells, hbel⟩; have HCells := Lib.hid hcells; have HBel := Lib.hid hbel; have hk3 := fun j => hbel.cell (p := ⟨wr.heap.size, j, none⟩) (by first | exact qz | (simp; omega)); have hf3 := fun j => hbel.frozen (p := ⟨wr.heap.size, j, none⟩) (by first | exact qz | (simp; omega)); clear hcells hbel)
          | (go_at_call 24; refine (refOne_any txt signsL b3 8 _ (by decide) HCells.out).mono ?_; rintro e w4 ⟨rfl, rfl⟩))
      have z3 : wr.heap.size < w3.heap.size := by have := HBel.out.size; have e : W2.drew.heap.size = W2.heap.size := rfl; omega
      have t0 : w3.cell? ⟨wr.heap.size, 0, none⟩ = some (.int .i64 3) := (HBel.out.cell (p := ⟨wr.heap.size, 0, none⟩) qz).trans q0
      have t1 : w3.cell? ⟨wr.heap.size, 1, none⟩ = some (.string (bt txt)) := (HBel.out.cell (p := ⟨wr.heap.size, 1, none⟩) qz).trans q1'
      have t2 : w3.cell? ⟨wr.heap.size, 2, none⟩ = some (.int .i64 0) := (HBel.out.cell (p := ⟨wr.heap.size, 2, none⟩) qz).trans q2'
      have t3 : w3.cell? ⟨wr.heap.size, 3, none⟩ = some (.int .i64 (p.1 : Int)) := (HBel.out.cell (p := ⟨wr.heap.size, 3, none⟩) qz).trans q3
      have t4 : w3.cell? ⟨wr.heap.size, 4, none⟩ = some (.int .i64 (p.2 : Int)) := (HBel.out.cell (p := ⟨wr.heap.size, 4, none⟩) qz).trans q4
      have tf : w3.frozen? ⟨wr.heap.size, 0, none⟩ = false := (HBel.out.frozen (p := ⟨wr.heap.size, 0, none⟩) qz).trans qf
      have hB3 := Lib.hid (blw_trans QB2.out.drew HBel.out)
      clear q0 q1' q2' q3 q4 qf qz hk3 hf3
      have hon0 := hon0_H.out
      clear hon0_H
      have hon := hon0
      rw [← HTx.out] at hon
      rw [hon]
      clear hon0
      have hkd : operKindL txt = 8 := by rw [operKindL, if_pos hon]
      have HX2 := Lib.hid (by have := HX.out; rw [hkd] at this; exact this)
      clear hkd HX
      have HX := HX2
      go_wp2_with fail
      refine (refOn_any _ (w.heap.size + 1) l o p (txt.length) (by exact (ref_below HS.out HO.out HE.out (by exact (blw_set (hB3.out) _ _))).1) (by omega) h (by omega) (by omega) bd3).mono ?_
      rintro e w5 ⟨rfl, hrd, hgr⟩
      have hk5 : ∀ j, w5.cell? ⟨wr.heap.size, j, none⟩ = _ := fun j => World.cell?_of_block (a := ⟨wr.heap.size, j, none⟩) (hgr.block _ (by show wr.heap.size < _; first | (simp; done) | omega | (simp; omega)) (ne_blk hgz))
      have hz5 := hgr.size
      have HRD := Lib.hid hrd
      have HGR := Lib.hid hgr
      obtain ⟨o5, b5⟩ := read_keep (ref_below HS.out HO.out HE.out (by exact (blw_set (hB3.out) _ _))).2.1 (ref_below HS.out HO.out HE.out (by exact (blw_set (hB3.out) _ _))).2.2 hgr
      have HO5 := Lib.hid o5
      have hz5' := rd_lt hrd
      clear hrd hgr o5 b5
      go_wp2_with (at_builtin; refine wpList_append_own _ rfl _ _ 22 rfl (w.heap.size + 2) 33 i0 _ 5 48 Try.underToks hi hz0 hz1 hz2 rfl (by decide) _ _ _ rfl (HO5.out.alloc _) ⟨w5.heap.size, 0, none⟩ 1 1 (tokCells ⟨8, txt, 0, p.1, p.2⟩) rfl rfl (tok_at w5 ⟨8, txt, 0, p.1, p.2⟩ _ _ rfl) (tok_one _) (by simp [maxLen]; omega) (by omega) (by simp; omega) ?_; intro v' w6 hown' hgrow _)
      have R := Lib.hid (ref_tok HS.out HP.out HO.out HE.out (by exact (blw_set (hB3.out) _ _)) HRD.out HGR.out (by omega) (by omega) hcnt H.out HX.out hgrow hown')
      clear hown' hgrow hk5
      go_wp2
      refine Handed.intro (l.length - o) HMM.out ?_
      refine hJ _ _ _ ?_
      unfold RI
      (repeat apply Exists.intro)
      exact ⟨R.out, rfl⟩
end

section
open Go.RowKit Lx
attribute [local go_sem] bt_size bt_get bt_list bt_toList bt_drop bt_take

set_option maxHeartbeats 4000000 in
set_option maxRecDepth 1000000 in
theorem cs_m4f (l : List UInt8) (w : World) (h : l.length ≤ 16384) (J : Nat → Act → World → Prop) (K K1 : Act → World → Prop) (gk : Nat) (wr : World) (c1 c14 c15 c16 c17 c18 c19 c20 c263 c264 c265 c266 c267 c268 c269 c270 c271 c272 c273 c274 c275 u2 u5 u6 u7 u8 u9 u10 u11 u12 u13 u21 u22 u23 u24 u25 u26 u27 u28 u29 u30 u31 u32 u33 u34 u35 u36 u37 u38 u39 u40 u41 u42 u43 u44 u45 u46 u47 u48 u49 u50 u51 u52 u53 u54 u55 u56 u57 u58 u59 u60 u61 u62 u63 u64 u65 u66 u67 u68 u69 u70 u71 u72 u73 u74 u75 u76 u77 u78 u79 u80 u81 u82 u83 u84 u85 u86 u87 u88 u89 u90 u91 u92 u93 u94 u95 u96 u97 u98 u99 u100 u101 u102 u103 u104 u105 u106 u107 u108 u109 u110 u111 u112 u113 u114 u115 u116 u117 u118 u119 u120 u121 u122 u123 u124 u125 u126 u127 u128 u129 u130 u131 u132 u133 u134 u135 u136 u137 u138 u139 u140 u141 u142 u143 u144 u145 u146 u147 u148 u149 u150 u151 u152 u153 u154 u155 u156 u157 u158 u159 u160 u161 u162 u163 u164 u165 u166 u167 u168 u169 u170 u171 u172 u173 u174 u175 u176 u177 u178 u179 u180 u181 u182 u183 u184 u185 u186 u187 u188 u189 u190 u191 u192 u193 u194 u195 u196 u197 u198 u199 u200 u201 u202 u203 u204 u205 u206 u207 u208 u209 u210 u211 u212 u213 u214 u215 u216 u217 u218 u219 u220 u221 u222 u223 u224 u225 u226 u227 u228 u229 u230 u231 u232 u233 u234 u235 u236 u237 u238 u239 u240 u241 u242 u243 u244 u245 u246 u247 u248 u249 u250 u251 u252 u253 u254 u255 u256 u257 u258 u259 u260 u261 u262 : Value) (o : Nat) (p : Nat × Nat) (ts : List Tk)
    (hrel : RefAt w l gk u5 wr o p ts) (hlt : o < l.length) (hsp : ¬ spaceB l[o] = true) (hop : ¬ openB (l.drop o) = true) (h1 : letB l[o] = false) (h95 : ¬ l[o] = 95) (h3 : digB l[o] = false) (h4 : symB l[o] = true) (hA : ((l.drop o).takeWhile symB).all dashB = false) (hC : ¬ (((l.drop o).takeWhile symB).all dashB = true ∧ 2 ≤ ((l.drop o).takeWhile symB).length)) (hon0 : oneB signsL ((l.drop o).takeWhile symB) = false) (h58 : l[o] = 58)
    (hJ : ∀ k a' w', RI w l c1 c14 c15 c16 c17 c18 c19 c20 c263 c264 c265 c266 c267 c268 c269 c270 c271 c272 c273 c274 c275 k a' w' → J k a' w') (hK : ∀ a' w', Handed J gk a' w' → K a' w') :
    Code.wp Try.prog refBody (Exit.then K (Exit.inBlock 0 (Exit.then K1 (bodyPost Try.prog Try.f9 (fun e w' => ReadPost w l e w'))))) ⟨#[.string (bt l), c1, u2, .pointer (some ⟨w.heap.size, 0, none⟩), .pointer (some ⟨w.heap.size + 1, 0, none⟩), u5, u6, u7, u8, u9, u10, u11, u12, u13, c14, c15, c16, c17, c18, c19, c20, u21, u22, u23, u24, u25, u26, u27, u28, u29, u30, u31, u32, u33, u34, u35, u36, u37, u38, u39, u40, u41, u42, u43, u44, u45, u46, u47, u48, u49, u50, u51, u52, u53, u54, u55, u56, u57, u58, u59, u60, u61, u62, u63, u64, u65, u66, u67, u68, u69, u70, u71, u72, u73, u74, u75, u76, u77, u78, u79, u80, u81, u82, u83, u84, u85, u86, u87, u88, u89, u90, u91, u92, u93, u94, u95, u96, u97, u98, u99, u100, u101, u102, u103, u104, u105, u106, u107, u108, u109, u110, u111, u112, u113, u114, u115, u116, u117, u118, u119, u120, u121, u122, u123, u124, u125, u126, u127, u128, u129, u130, u131, u132, u133, u134, u135, u136, u137, u138, u139, u140, u141, u142, u143, u144, u145, u146, u147, u148, u149, u150, u151, u152, u153, u154, u155, u156, u157, u158, u159, u160, u161, u162, u163, u164, u165, u166, u167, u168, u169, u170, u171, u172, u173, u174, u175, u176, u177, u178, u179, u180, u181, u182, u183, u184, u185, u186, u187, u188, u189, u190, u191, u192, u193, u194, u195, u196, u197, u198, u199, u200, u201, u202, u203, u204, u205, u206, u207, u208, u209, u210, u211, u212, u213, u214, u215, u216, u217, u218, u219, u220, u221, u222, u223, u224, u225, u226, u227, u228, u229, u230, u231, u232, u233, u234, u235, u236, u237, u238, u239, u240, u241, u242, u243, u244, u245, u246, u247, u248, u249, u250, u251, u252, u253, u254, u255, u256, u257, u258, u259, u260, u261, u262, c263, c264, c265, c266, c267, c268, c269, c270, c271, c272, c273, c274, c275], []⟩ wr := by
  obtain ⟨i0, hi, hz0, hz1, hz2⟩ := info_parts Try.infoTok
  obtain ⟨hs, hp, ho, hown, hbe, hcnt, hall, hmm⟩ := hrel
  obtain ⟨c0', c1', c2', c3'⟩ := rd_cells hs
  have hgz := rd_lt hs
  have hbd := adv_bd (l.take o) (1, 1) (by simp)
  rw [← hp] at hbd
  have htl : (l.take o).length ≤ o := List.length_take_le _ _
  simp only at hbd
  obtain ⟨bd1, bd2⟩ := hbd
  have bd3 : 1 ≤ p.2 := by rw [hp, advL_eq]; split <;> simp
  have H := Lib.hid hall
  have HS := Lib.hid hs
  have HP := Lib.hid hp
  have HO := Lib.hid hown
  have HE := Lib.hid hbe
  have HMM := Lib.hid hmm
  clear hall hs hp hown hbe hmm
  have hd := List.drop_eq_getElem_cons hlt
  have HD := Lib.hid hd
  clear hd
  have hb8 : (l[o].toNat : Int) ≤ 255 := by have := l[o].toNat_lt; omega
  have HA := Lib.hid hA
  have HC := Lib.hid hC
  clear hA hC
  have hon0_H := Lib.hid hon0
  clear hon0
  have h58_H := Lib.hid h58
  clear h58
  have hsp' : spaceB l[o] = false := by simpa using hsp
  have q1 : ((l[o].toNat : Int) == 32) = false := byte_ne (b := 32) (fun e => by rw [e] at hsp'; exact absurd hsp' (by decide))
  have q2 : ((l[o].toNat : Int) == 10) = false := byte_ne (b := 10) (fun e => by rw [e] at hsp'; exact absurd hsp' (by decide))
  have hop' : openB (l.drop o) = false := by simpa using hop
  have r12 : ((l[o].toNat : Int) == 123) = false ∨ (((l[o].toNat : Int) == 123) = true ∧ ¬ o + 1 < l.length) ∨ (((l[o].toNat : Int) == 123) = true ∧ ∃ h2 : o + 1 < l.length, ((l[o + 1].toNat : Int) == 45) = false) := by
    by_cases e : l[o] = 123
    · by_cases h2 : o + 1 < l.length
      · refine .inr (.inr ⟨by rw [e]; rfl, h2, byte_ne (b := 45) ?_⟩)
        intro e2
        rw [HD.out, List.drop_eq_getElem_cons h2, e, e2] at hop'
        simp [openB, List.isPrefixOf] at hop'
      · exact .inr (.inl ⟨by rw [e]; rfl, h2⟩)
    · exact .inl (byte_ne e)
  have g95 : ((l[o].toNat : Int) == 95) = false := byte_ne h95
  have r1 : ((l[o].toNat : Int) == 123) = false := byte_ne (b := 123) (fun e => by rw [e] at h4; exact absurd h4 (by decide))
  obtain ⟨txt, htx⟩ : ∃ txt, txt = (l.drop o).takeWhile symB := ⟨_, rfl⟩
  have hn1 : 1 ≤ txt.length := by rw [htx, HD.out, tw_cons h4]; simp
  have hn2 : o + txt.length ≤ l.length := by
    rw [htx]
    have := takeWhile_len symB (l.drop o)
    simp at this
    omega
  have hex : (bt l).extract o (o + txt.length) = bt txt := by
    rw [bt_extract, show o + txt.length - o = txt.length from by omega, htx, ← tw_take2]
  have hhd : txt.headD 0 = l[o] := by rw [htx, HD.out, tw_cons h4]; rfl
  have hgp : gapL (l.drop o) = some (lineL (l.drop o)) := by
    unfold gapL
    rw [if_pos (by rw [HD.out]; simp only [List.takeWhile_cons, hsp']; rfl), if_neg (by rw [hop']; exact Bool.false_ne_true)]
  have hli : lineL (l.drop o) = if txt.length < 2 || !(txt.takeWhile dashB == txt) then 0 else ((l.drop o).takeWhile nlB).length := by
    unfold lineL
    rw [← htx]
  have HGp := Lib.hid hgp
  have HLi := Lib.hid hli
  have HTx := Lib.hid htx
  have HHd := Lib.hid hhd
  clear hsp hop hop' r12 htx hhd hgp hli
  have i1 : (o : Int) + (txt.length : Int) ≤ (l.length : Int) := by omega
  have i2 : (o : Int) ≤ (o : Int) + (txt.length : Int) := by omega
  conv => arg 2; whnf
  go_wp2
  go_region
  go_wp2_with fail
  refine (refLetter_any _ _).mono ?_
  rintro e w' ⟨rfl, rfl⟩
  rw [h1]
  go_wp2_with fail
  refine (refDigit_any _ _).mono ?_
  rintro e w' ⟨rfl, rfl⟩
  rw [h3]
  go_wp2_with fail
  refine (refMark_any _ _).mono ?_
  rintro e w' ⟨rfl, rfl⟩
  rw [h4]
  go_wp2_with fail
  refine (refRow_any _ (w.heap.size + 1) l o p 2 (by omega) (by exact (ref_below HS.out HO.out HE.out (by exact (blw_alloc (Below.refl _ _) _).drew)).1) (by omega) h).mono ?_
  rintro e w2 ⟨rfl, m, rfl⟩
  rw [show ((l.drop o).takeWhile (goesB 2)).length = txt.length from by rw [HTx.out]; rfl]
  go_wp2
  go_region
  go_wp2
  generalize hWW : World.setCell (World.drewN _ _) _ _ = W
  have q5 : T5 W wr.heap.size 0 txt 0 p := by
    rw [← hWW]
    refine ⟨?_, ?_, ?_, ?_, ?_, fun i => ?_, ?_⟩ <;> simp [go_sem]
  have qB : Below wr.heap.size wr W := by rw [← hWW]; exact blw_set (below_drewN' (blw_alloc (Below.refl _ _) _) _) _ _
  have QB := Lib.hid qB
  have Q5 := Lib.hid q5
  obtain ⟨t0, t1, t2, t3, t4, tf, tz⟩ := q5
  have tf0 := tf 0
  clear qB hWW tf
  go_loop [12, 13] (fun b i => ∃ k : Nat, k ≤ txt.length ∧ i = .int .i64 k ∧ b = .bool ((txt.take k).all dashB)) (fun _ i => txt.length - (intOf i).toNat)
  case atStart => exact ⟨0, Nat.zero_le _, rfl, rfl⟩
  case round =>
    obtain ⟨k, hk, rfl, rfl⟩ := hrel
    by_cases hkl : k < txt.length
    · have hsn : (txt.take (k + 1)).all dashB = ((txt.take k).all dashB && dashB txt[k]) := by
        rw [List.take_succ_eq_append_getElem hkl, List.all_append]
        simp
      have HSn := Lib.hid hsn
      clear hsn
      cases hb : (txt.take k).all dashB with
      | true =>
        by_cases hda : txt[k] = 45
        · have g45 : ((txt[k].toNat : Int) == 45) = true := by rw [hda]; rfl
          have hdb : dashB txt[k] = true := by rw [hda]; rfl
          have HDb := Lib.hid hdb
          have HBb := Lib.hid hb
          clear hda hdb hb
          go_wp2
          go_round
          case rel => exact ⟨k + 1, by omega, by go_num, by rw [HSn.out, HBb.out, HDb.out]; rfl⟩
          case measure => simp [intOf]; omega
        · have g45 : ((txt[k].toNat : Int) == 45) = false := byte_ne hda
          have hdb : dashB txt[k] = false := by simp [dashB, hda]
          have HDb := Lib.hid hdb
          have HBb := Lib.hid hb
          clear hda hdb hb
          go_wp2
          go_round
          case rel => exact ⟨k + 1, by omega, by go_num, by rw [HSn.out, HBb.out, HDb.out]; rfl⟩
          case measure => simp [intOf]; omega
      | false =>
        have HBb := Lib.hid hb
        clear hb
        go_wp2
        go_round
        case rel => exact ⟨k + 1, by omega, by go_num, by rw [HSn.out, HBb.out]; rfl⟩
        case measure => simp [intOf]; omega
    · rw [List.take_of_length_le (by omega)]
      have hcm : ¬ (txt.all dashB = true ∧ 2 ≤ txt.length) := by rw [HTx.out]; exact HC.out
      have hli : lineL (l.drop o) = 0 := by
        rw [HLi.out, if_pos (by
          simp only [Bool.or_eq_true, decide_eq_true_eq, Bool.not_eq_true', beq_eq_false_iff_ne]
          by_cases h2 : txt.length < 2
          · exact .inl h2
          · refine .inr (fun e => hcm ⟨?_, by omega⟩)
            rw [← e]
            exact all_takeWhile _ _)]
      have hgap : gapL (l.drop o) = some 0 := by rw [HGp.out, hli]
      have ht : tokG (l[o] :: l.drop (o + 1)) = speltG (operKindL txt) txt := by
        rw [tokG_cons, if_neg (by simp [h1, h95]), if_neg (by simp [h3]), if_pos h4, HTx.out, HD.out]
      have hx : lx (l.drop o) p = (lx ((l.drop o).drop txt.length) (advL p ((l.drop o).take txt.length))).map ((⟨operKindL txt, txt, 0, p.1, p.2⟩ : Tk) :: ·) := by
        rw [HD.out] at hgap ⊢
        rw [lx_tok hgap (by rw [ht]; rfl), ht]
        rfl
      have HX := Lib.hid hx
      clear hx hli hgap ht hcm h95
      rw [show txt.all dashB = false from by rw [HTx.out]; exact HA.out]
      go_wp2
      generalize hWW : World.setCell W _ _ = W2
      have q0 : W2.cell? ⟨wr.heap.size, 0, none⟩ = some (.int .i64 3) := by rw [← hWW]; simp [go_sem, t0]
      have q1' : W2.cell? ⟨wr.heap.size, 1, none⟩ = some (.string (bt txt)) := by rw [← hWW]; simp [go_sem, t1]
      have q2' : W2.cell? ⟨wr.heap.size, 2, none⟩ = some (.int .i64 0) := by rw [← hWW]; simp [go_sem, t2]
      have q3 : W2.cell? ⟨wr.heap.size, 3, none⟩ = some (.int .i64 (p.1 : Int)) := by rw [← hWW]; simp [go_sem, t3]
      have q4 : W2.cell? ⟨wr.heap.size, 4, none⟩ = some (.int .i64 (p.2 : Int)) := by rw [← hWW]; simp [go_sem, t4]
      have qf : W2.frozen? ⟨wr.heap.size, 0, none⟩ = false := by rw [← hWW]; simp [go_sem, tf0]
      have qz : wr.heap.size < W2.heap.size := by rw [← hWW]; simpa using tz
      have qB2 : Below wr.heap.size wr W2 := by rw [← hWW]; exact blw_set QB.out _ _
      have QB2 := Lib.hid qB2
      clear qB2 hWW t0 t1 t2 t3 t4 tf0
      go_region_held3 (fun w' => w'.cell? ⟨wr.heap.size, 1, none⟩ = some (.string (bt txt))) (go_keep)
        (first
          | (go_at_call 28; refine (refSigns_any _).mono ?_; rintro e w3 ⟨b3, rfl, hb31, hb32, hcells, hbel⟩; have HCells := Lib.hid hcells; have HBel := Lib.hid hbel; have hk3 := fun j => hbel.cell (p := ⟨wr.heap.size, j, none⟩) (by first | exact qz | (simp; omega)); have hf3 := fun j => hbel.frozen (p := ⟨wr.heap.size, j, none⟩) (by first | exact qz | (simp; omega)); clear hcells hbel)
          | (go_at_call 24; refine (refOne_any txt signsL b3 8 _ (by decide) HCells.out).mono ?_; rintro e w4 ⟨rfl, rfl⟩))
      have z3 : wr.heap.size < w3.heap.size := by have := HBel.out.size; have e : W2.drew.heap.size = W2.heap.size := rfl; omega
      have t0 : w3.cell? ⟨wr.heap.size, 0, none⟩ = some (.int .i64 3) := (HBel.out.cell (p := ⟨wr.heap.size, 0, none⟩) qz).trans q0
      have t1 : w3.cell? ⟨wr.heap.size, 1, none⟩ = some (.string (bt txt)) := (HBel.out.cell (p := ⟨wr.heap.size, 1, none⟩) qz).trans q1'
      have t2 : w3.cell? ⟨wr.heap.size, 2, none⟩ = some (.int .i64 0) := (HBel.out.cell (p := ⟨wr.heap.size, 2, none⟩) qz).trans q2'
      have t3 : w3.cell? ⟨wr.heap.size, 3, none⟩ = some (.int .i64 (p.1 : Int)) := (HBel.out.cell (p := ⟨wr.heap.size, 3, none⟩) qz).trans q3
      have t4 : w3.cell? ⟨wr.heap.size, 4, none⟩ = some (.int .i64 (p.2 : Int)) := (HBel.out.cell (p := ⟨wr.heap.size, 4, none⟩) qz).trans q4
      have tf : w3.frozen? ⟨wr.heap.size, 0, none⟩ = false := (HBel.out.frozen (p := ⟨wr.heap.size, 0, none⟩) qz).trans qf
      have hB3 := Lib.hid (blw_trans QB2.out.drew HBel.out)
      clear q0 q1' q2' q3 q4 qf qz hk3 hf3
      have hon0 := hon0_H.out
      clear hon0_H
      have h58 := h58_H.out
      clear h58_H
      have hon := hon0
      rw [← HTx.out] at hon
      rw [hon]
      clear hon0
      have g58 : ((l[o].toNat : Int) == 58) = true := by rw [h58]; rfl
      have hkd : operKindL txt = 4 := by rw [operKindL, if_neg (by rw [hon]; exact Bool.false_ne_true), if_pos (by rw [HHd.out]; exact h58)]
      have HX2 := Lib.hid (by have := HX.out; rw [hkd] at this; exact this)
      clear hkd HX h58
      have HX := HX2
      go_wp2_with fail
      refine (refOn_any _ (w.heap.size + 1) l o p (txt.length) (by exact (ref_below HS.out HO.out HE.out (by exact (blw_set (hB3.out) _ _))).1) (by omega) h (by omega) (by omega) bd3).mono ?_
      rintro e w5 ⟨rfl, hrd, hgr⟩
      have hk5 : ∀ j, w5.cell? ⟨wr.heap.size, j, none⟩ = _ := fun j => World.cell?_of_block (a := ⟨wr.heap.size, j, none⟩) (hgr.block _ (by show wr.heap.size < _; first | (simp; done) | omega | (simp; omega)) (ne_blk hgz))
      have hz5 := hgr.size
      have HRD := Lib.hid hrd
      have HGR := Lib.hid hgr
      obtain ⟨o5, b5⟩ := read_keep (ref_below HS.out HO.out HE.out (by exact (blw_set (hB3.out) _ _))).2.1 (ref_below HS.out HO.out HE.out (by exact (blw_set (hB3.out) _ _))).2.2 hgr
      have HO5 := Lib.hid o5
      have hz5' := rd_lt hrd
      clear hrd hgr o5 b5
      go_wp2_with (at_builtin; refine wpList_append_own _ rfl _ _ 22 rfl (w.heap.size + 2) 33 i0 _ 5 48 Try.underToks hi hz0 hz1 hz2 rfl (by decide) _ _ _ rfl (HO5.out.alloc _) ⟨w5.heap.size, 0, none⟩ 1 1 (tokCells ⟨4, txt, 0, p.1, p.2⟩) rfl rfl (tok_at w5 ⟨4, txt, 0, p.1, p.2⟩ _ _ rfl) (tok_one _) (by simp [maxLen]; omega) (by omega) (by simp; omega) ?_; intro v' w6 hown' hgrow _)
      have R := Lib.hid (ref_tok HS.out HP.out HO.out HE.out (by exact (blw_set (hB3.out) _ _)) HRD.out HGR.out (by omega) (by omega) hcnt H.out HX.out hgrow hown')
      clear hown' hgrow hk5
      go_wp2
      refine Handed.intro (l.length - o) HMM.out ?_
      refine hJ _ _ _ ?_
      unfold RI
      (repeat apply Exists.intro)
      exact ⟨R.out, rfl⟩
end

section
open Go.RowKit Lx
attribute [local go_sem] bt_size bt_get bt_list bt_toList bt_drop bt_take

set_option maxHeartbeats 4000000 in
set_option maxRecDepth 1000000 in
theorem cs_m3f (l : List UInt8) (w : World) (h : l.length ≤ 16384) (J : Nat → Act → World → Prop) (K K1 : Act → World → Prop) (gk : Nat) (wr : World) (c1 c14 c15 c16 c17 c18 c19 c20 c263 c264 c265 c266 c267 c268 c269 c270 c271 c272 c273 c274 c275 u2 u5 u6 u7 u8 u9 u10 u11 u12 u13 u21 u22 u23 u24 u25 u26 u27 u28 u29 u30 u31 u32 u33 u34 u35 u36 u37 u38 u39 u40 u41 u42 u43 u44 u45 u46 u47 u48 u49 u50 u51 u52 u53 u54 u55 u56 u57 u58 u59 u60 u61 u62 u63 u64 u65 u66 u67 u68 u69 u70 u71 u72 u73 u74 u75 u76 u77 u78 u79 u80 u81 u82 u83 u84 u85 u86 u87 u88 u89 u90 u91 u92 u93 u94 u95 u96 u97 u98 u99 u100 u101 u102 u103 u104 u105 u106 u107 u108 u109 u110 u111 u112 u113 u114 u115 u116 u117 u118 u119 u120 u121 u122 u123 u124 u125 u126 u127 u128 u129 u130 u131 u132 u133 u134 u135 u136 u137 u138 u139 u140 u141 u142 u143 u144 u145 u146 u147 u148 u149 u150 u151 u152 u153 u154 u155 u156 u157 u158 u159 u160 u161 u162 u163 u164 u165 u166 u167 u168 u169 u170 u171 u172 u173 u174 u175 u176 u177 u178 u179 u180 u181 u182 u183 u184 u185 u186 u187 u188 u189 u190 u191 u192 u193 u194 u195 u196 u197 u198 u199 u200 u201 u202 u203 u204 u205 u206 u207 u208 u209 u210 u211 u212 u213 u214 u215 u216 u217 u218 u219 u220 u221 u222 u223 u224 u225 u226 u227 u228 u229 u230 u231 u232 u233 u234 u235 u236 u237 u238 u239 u240 u241 u242 u243 u244 u245 u246 u247 u248 u249 u250 u251 u252 u253 u254 u255 u256 u257 u258 u259 u260 u261 u262 : Value) (o : Nat) (p : Nat × Nat) (ts : List Tk)
    (hrel : RefAt w l gk u5 wr o p ts) (hlt : o < l.length) (hsp : ¬ spaceB l[o] = true) (hop : ¬ openB (l.drop o) = true) (h1 : letB l[o] = false) (h95 : ¬ l[o] = 95) (h3 : digB l[o] = false) (h4 : symB l[o] = true) (hA : ((l.drop o).takeWhile symB).all dashB = false) (hC : ¬ (((l.drop o).takeWhile symB).all dashB = true ∧ 2 ≤ ((l.drop o).takeWhile symB).length)) (hon0 : oneB signsL ((l.drop o).takeWhile symB) = false) (h58 : ¬ l[o] = 58)
    (hJ : ∀ k a' w', RI w l c1 c14 c15 c16 c17 c18 c19 c20 c263 c264 c265 c266 c267 c268 c269 c270 c271 c272 c273 c274 c275 k a' w' → J k a' w') (hK : ∀ a' w', Handed J gk a' w' → K a' w') :
    Code.wp Try.prog refBody (Exit.then K (Exit.inBlock 0 (Exit.then K1 (bodyPost Try.prog Try.f9 (fun e w' => ReadPost w l e w'))))) ⟨#[.string (bt l), c1, u2, .pointer (some ⟨w.heap.size, 0, none⟩), .pointer (some ⟨w.heap.size + 1, 0, none⟩), u5, u6, u7, u8, u9, u10, u11, u12, u13, c14, c15, c16, c17, c18, c19, c20, u21, u22, u23, u24, u25, u26, u27, u28, u29, u30, u31, u32, u33, u34, u35, u36, u37, u38, u39, u40, u41, u42, u43, u44, u45, u46, u47, u48, u49, u50, u51, u52, u53, u54, u55, u56, u57, u58, u59, u60, u61, u62, u63, u64, u65, u66, u67, u68, u69, u70, u71, u72, u73, u74, u75, u76, u77, u78, u79, u80, u81, u82, u83, u84, u85, u86, u87, u88, u89, u90, u91, u92, u93, u94, u95, u96, u97, u98, u99, u100, u101, u102, u103, u104, u105, u106, u107, u108, u109, u110, u111, u112, u113, u114, u115, u116, u117, u118, u119, u120, u121, u122, u123, u124, u125, u126, u127, u128, u129, u130, u131, u132, u133, u134, u135, u136, u137, u138, u139, u140, u141, u142, u143, u144, u145, u146, u147, u148, u149, u150, u151, u152, u153, u154, u155, u156, u157, u158, u159, u160, u161, u162, u163, u164, u165, u166, u167, u168, u169, u170, u171, u172, u173, u174, u175, u176, u177, u178, u179, u180, u181, u182, u183, u184, u185, u186, u187, u188, u189, u190, u191, u192, u193, u194, u195, u196, u197, u198, u199, u200, u201, u202, u203, u204, u205, u206, u207, u208, u209, u210, u211, u212, u213, u214, u215, u216, u217, u218, u219, u220, u221, u222, u223, u224, u225, u226, u227, u228, u229, u230, u231, u232, u233, u234, u235, u236, u237, u238, u239, u240, u241, u242, u243, u244, u245, u246, u247, u248, u249, u250, u251, u252, u253, u254, u255, u256, u257, u258, u259, u260, u261, u262, c263, c264, c265, c266, c267, c268, c269, c270, c271, c272, c273, c274, c275], []⟩ wr := by
  obtain ⟨i0, hi, hz0, hz1, hz2⟩ := info_parts Try.infoTok
  obtain ⟨hs, hp, ho, hown, hbe, hcnt, hall, hmm⟩ := hrel
  obtain ⟨c0', c1', c2', c3'⟩ := rd_cells hs
  have hgz := rd_lt hs
  have hbd := adv_bd (l.take o) (1, 1) (by simp)
  rw [← hp] at hbd
  have htl : (l.take o).length ≤ o := List.length_take_le _ _
  simp only at hbd
  obtain ⟨bd1, bd2⟩ := hbd
  have bd3 : 1 ≤ p.2 := by rw [hp, advL_eq]; split <;> simp
  have H := Lib.hid hall
  have HS := Lib.hid hs
  have HP := Lib.hid hp
  have HO := Lib.hid hown
  have HE := Lib.hid hbe
  have HMM := Lib.hid hmm
  clear hall hs hp hown hbe hmm
  have hd := List.drop_eq_getElem_cons hlt
  have HD := Lib.hid hd
  clear hd
  have hb8 : (l[o].toNat : Int) ≤ 255 := by have := l[o].toNat_lt; omega
  have HA := Lib.hid hA
  have HC := Lib.hid hC
  clear hA hC
  have hon0_H := Lib.hid hon0
  clear hon0
  have h58_H := Lib.hid h58
  clear h58
  have hsp' : spaceB l[o] = false := by simpa using hsp
  have q1 : ((l[o].toNat : Int) == 32) = false := byte_ne (b := 32) (fun e => by rw [e] at hsp'; exact absurd hsp' (by decide))
  have q2 : ((l[o].toNat : Int) == 10) = false := byte_ne (b := 10) (fun e => by rw [e] at hsp'; exact absurd hsp' (by decide))
  have hop' : openB (l.drop o) = false := by simpa using hop
  have r12 : ((l[o].toNat : Int) == 123) = false ∨ (((l[o].toNat : Int) == 123) = true ∧ ¬ o + 1 < l.length) ∨ (((l[o].toNat : Int) == 123) = true ∧ ∃ h2 : o + 1 < l.length, ((l[o + 1].toNat : Int) == 45) = false) := by
    by_cases e : l[o] = 123
    · by_cases h2 : o + 1 < l.length
      · refine .inr (.inr ⟨by rw [e]; rfl, h2, byte_ne (b := 45) ?_⟩)
        intro e2
        rw [HD.out, List.drop_eq_getElem_cons h2, e, e2] at hop'
        simp [openB, List.isPrefixOf] at hop'
      · exact .inr (.inl ⟨by rw [e]; rfl, h2⟩)
    · exact .inl (byte_ne e)
  have g95 : ((l[o].toNat : Int) == 95) = false := byte_ne h95
  have r1 : ((l[o].toNat : Int) == 123) = false := byte_ne (b := 123) (fun e => by rw [e] at h4; exact absurd h4 (by decide))
  obtain ⟨txt, htx⟩ : ∃ txt, txt = (l.drop o).takeWhile symB := ⟨_, rfl⟩
  have hn1 : 1 ≤ txt.length := by rw [htx, HD.out, tw_cons h4]; simp
  have hn2 : o + txt.length ≤ l.length := by
    rw [htx]
    have := takeWhile_len symB (l.drop o)
    simp at this
    omega
  have hex : (bt l).extract o (o + txt.length) = bt txt := by
    rw [bt_extract, show o + txt.length - o = txt.length from by omega, htx, ← tw_take2]
  have hhd : txt.headD 0 = l[o] := by rw [htx, HD.out, tw_cons h4]; rfl
  have hgp : gapL (l.drop o) = some (lineL (l.drop o)) := by
    unfold gapL
    rw [if_pos (by rw [HD.out]; simp only [List.takeWhile_cons, hsp']; rfl), if_neg (by rw [hop']; exact Bool.false_ne_true)]
  have hli : lineL (l.drop o) = if txt.length < 2 || !(txt.takeWhile dashB == txt) then 0 else ((l.drop o).takeWhile nlB).length := by
    unfold lineL
    rw [← htx]
  have HGp := Lib.hid hgp
  have HLi := Lib.hid hli
  have HTx := Lib.hid htx
  have HHd := Lib.hid hhd
  clear hsp hop hop' r12 htx hhd hgp hli
  have i1 : (o : Int) + (txt.length : Int) ≤ (l.length : Int) := by omega
  have i2 : (o : Int) ≤ (o : Int) + (txt.length : Int) := by omega
  conv => arg 2; whnf
  go_wp2
  go_region
  go_wp2_with fail
  refine (refLetter_any _ _).mono ?_
  rintro e w' ⟨rfl, rfl⟩
  rw [h1]
  go_wp2_with fail
  refine (refDigit_any _ _).mono ?_
  rintro e w' ⟨rfl, rfl⟩
  rw [h3]
  go_wp2_with fail
  refine (refMark_any _ _).mono ?_
  rintro e w' ⟨rfl, rfl⟩
  rw [h4]
  go_wp2_with fail
  refine (refRow_any _ (w.heap.size + 1) l o p 2 (by omega) (by exact (ref_below HS.out HO.out HE.out (by exact (blw_alloc (Below.refl _ _) _).drew)).1) (by omega) h).mono ?_
  rintro e w2 ⟨rfl, m, rfl⟩
  rw [show ((l.drop o).takeWhile (goesB 2)).length = txt.length from by rw [HTx.out]; rfl]
  go_wp2
  go_region
  go_wp2
  generalize hWW : World.setCell (World.drewN _ _) _ _ = W
  have q5 : T5 W wr.heap.size 0 txt 0 p := by
    rw [← hWW]
    refine ⟨?_, ?_, ?_, ?_, ?_, fun i => ?_, ?_⟩ <;> simp [go_sem]
  have qB : Below wr.heap.size wr W := by rw [← hWW]; exact blw_set (below_drewN' (blw_alloc (Below.refl _ _) _) _) _ _
  have QB := Lib.hid qB
  have Q5 := Lib.hid q5
  obtain ⟨t0, t1, t2, t3, t4, tf, tz⟩ := q5
  have tf0 := tf 0
  clear qB hWW tf
  go_loop [12, 13] (fun b i => ∃ k : Nat, k ≤ txt.length ∧ i = .int .i64 k ∧ b = .bool ((txt.take k).all dashB)) (fun _ i => txt.length - (intOf i).toNat)
  case atStart => exact ⟨0, Nat.zero_le _, rfl, rfl⟩
  case round =>
    obtain ⟨k, hk, rfl, rfl⟩ := hrel
    by_cases hkl : k < txt.length
    · have hsn : (txt.take (k + 1)).all dashB = ((txt.take k).all dashB && dashB txt[k]) := by
        rw [List.take_succ_eq_append_getElem hkl, List.all_append]
        simp
      have HSn := Lib.hid hsn
      clear hsn
      cases hb : (txt.take k).all dashB with
      | true =>
        by_cases hda : txt[k] = 45
        · have g45 : ((txt[k].toNat : Int) == 45) = true := by rw [hda]; rfl
          have hdb : dashB txt[k] = true := by rw [hda]; rfl
          have HDb := Lib.hid hdb
          have HBb := Lib.hid hb
          clear hda hdb hb
          go_wp2
          go_round
          case rel => exact ⟨k + 1, by omega, by go_num, by rw [HSn.out, HBb.out, HDb.out]; rfl⟩
          case measure => simp [intOf]; omega
        · have g45 : ((txt[k].toNat : Int) == 45) = false := byte_ne hda
          have hdb : dashB txt[k] = false := by simp [dashB, hda]
          have HDb := Lib.hid hdb
          have HBb := Lib.hid hb
          clear hda hdb hb
          go_wp2
          go_round
          case rel => exact ⟨k + 1, by omega, by go_num, by rw [HSn.out, HBb.out, HDb.out]; rfl⟩
          case measure => simp [intOf]; omega
      | false =>
        have HBb := Lib.hid hb
        clear hb
        go_wp2
        go_round
        case rel => exact ⟨k + 1, by omega, by go_num, by rw [HSn.out, HBb.out]; rfl⟩
        case measure => simp [intOf]; omega
    · rw [List.take_of_length_le (by omega)]
      have hcm : ¬ (txt.all dashB = true ∧ 2 ≤ txt.length) := by rw [HTx.out]; exact HC.out
      have hli : lineL (l.drop o) = 0 := by
        rw [HLi.out, if_pos (by
          simp only [Bool.or_eq_true, decide_eq_true_eq, Bool.not_eq_true', beq_eq_false_iff_ne]
          by_cases h2 : txt.length < 2
          · exact .inl h2
          · refine .inr (fun e => hcm ⟨?_, by omega⟩)
            rw [← e]
            exact all_takeWhile _ _)]
      have hgap : gapL (l.drop o) = some 0 := by rw [HGp.out, hli]
      have ht : tokG (l[o] :: l.drop (o + 1)) = speltG (operKindL txt) txt := by
        rw [tokG_cons, if_neg (by simp [h1, h95]), if_neg (by simp [h3]), if_pos h4, HTx.out, HD.out]
      have hx : lx (l.drop o) p = (lx ((l.drop o).drop txt.length) (advL p ((l.drop o).take txt.length))).map ((⟨operKindL txt, txt, 0, p.1, p.2⟩ : Tk) :: ·) := by
        rw [HD.out] at hgap ⊢
        rw [lx_tok hgap (by rw [ht]; rfl), ht]
        rfl
      have HX := Lib.hid hx
      clear hx hli hgap ht hcm h95
      rw [show txt.all dashB = false from by rw [HTx.out]; exact HA.out]
      go_wp2
      generalize hWW : World.setCell W _ _ = W2
      have q0 : W2.cell? ⟨wr.heap.size, 0, none⟩ = some (.int .i64 3) := by rw [← hWW]; simp [go_sem, t0]
      have q1' : W2.cell? ⟨wr.heap.size, 1, none⟩ = some (.string (bt txt)) := by rw [← hWW]; simp [go_sem, t1]
      have q2' : W2.cell? ⟨wr.heap.size, 2, none⟩ = some (.int .i64 0) := by rw [← hWW]; simp [go_sem, t2]
      have q3 : W2.cell? ⟨wr.heap.size, 3, none⟩ = some (.int .i64 (p.1 : Int)) := by rw [← hWW]; simp [go_sem, t3]
      have q4 : W2.cell? ⟨wr.heap.size, 4, none⟩ = some (.int .i64 (p.2 : Int)) := by rw [← hWW]; simp [go_sem, t4]
      have qf : W2.frozen? ⟨wr.heap.size, 0, none⟩ = false := by rw [← hWW]; simp [go_sem, tf0]
      have qz : wr.heap.size < W2.heap.size := by rw [← hWW]; simpa using tz
      have qB2 : Below wr.heap.size wr W2 := by rw [← hWW]; exact blw_set QB.out _ _
      have QB2 := Lib.hid qB2
      clear qB2 hWW t0 t1 t2 t3 t4 tf0
      go_region_held3 (fun w' => w'.cell? ⟨wr.heap.size, 1, none⟩ = some (.string (bt txt))) (go_keep)
        (first
          | (go_at_call 28; refine (refSigns_any _).mono ?_; rintro e w3 ⟨b3, rfl, hb31, hb32, hcells, hbel⟩; have HCells := Lib.hid hcells; have HBel := Lib.hid hbel; have hk3 := fun j => hbel.cell (p := ⟨wr.heap.size, j, none⟩) (by first | exact qz | (simp; omega)); have hf3 := fun j => hbel.frozen (p := ⟨wr.heap.size, j, none⟩) (by first | exact qz | (simp; omega)); clear hcells hbel)
          | (go_at_call 24; refine (refOne_any txt signsL b3 8 _ (by decide) HCells.out).mono ?_; rintro e w4 ⟨rfl, rfl⟩))
      have z3 : wr.heap.size < w3.heap.size := by have := HBel.out.size; have e : W2.drew.heap.size = W2.heap.size := rfl; omega
      have t0 : w3.cell? ⟨wr.heap.size, 0, none⟩ = some (.int .i64 3) := (HBel.out.cell (p := ⟨wr.heap.size, 0, none⟩) qz).trans q0
      have t1 : w3.cell? ⟨wr.heap.size, 1, none⟩ = some (.string (bt txt)) := (HBel.out.cell (p := ⟨wr.heap.size, 1, none⟩) qz).trans q1'
      have t2 : w3.cell? ⟨wr.heap.size, 2, none⟩ = some (.int .i64 0) := (HBel.out.cell (p := ⟨wr.heap.size, 2, none⟩) qz).trans q2'
      have t3 : w3.cell? ⟨wr.heap.size, 3, none⟩ = some (.int .i64 (p.1 : Int)) := (HBel.out.cell (p := ⟨wr.heap.size, 3, none⟩) qz).trans q3
      have t4 : w3.cell? ⟨wr.heap.size, 4, none⟩ = some (.int .i64 (p.2 : Int)) := (HBel.out.cell (p := ⟨wr.heap.size, 4, none⟩) qz).trans q4
      have tf : w3.frozen? ⟨wr.heap.size, 0, none⟩ = false := (HBel.out.frozen (p := ⟨wr.heap.size, 0, none⟩) qz).trans qf
      have hB3 := Lib.hid (blw_trans QB2.out.drew HBel.out)
      clear q0 q1' q2' q3 q4 qf qz hk3 hf3
      have hon0 := hon0_H.out
      clear hon0_H
      have h58 := h58_H.out
      clear h58_H
      have hon := hon0
      rw [← HTx.out] at hon
      rw [hon]
      clear hon0
      have g58 : ((l[o].toNat : Int) == 58) = false := byte_ne h58
      have hkd : operKindL txt = 3 := by rw [operKindL, if_neg (by rw [hon]; exact Bool.false_ne_true), if_neg (by rw [HHd.out]; exact h58)]
      have HX2 := Lib.hid (by have := HX.out; rw [hkd] at this; exact this)
      clear hkd HX h58
      have HX := HX2
      go_wp2_with fail
      refine (refOn_any _ (w.heap.size + 1) l o p (txt.length) (by exact (ref_below HS.out HO.out HE.out (by exact (hB3.out))).1) (by omega) h (by omega) (by omega) bd3).mono ?_
      rintro e w5 ⟨rfl, hrd, hgr⟩
      have hk5 : ∀ j, w5.cell? ⟨wr.heap.size, j, none⟩ = _ := fun j => World.cell?_of_block (a := ⟨wr.heap.size, j, none⟩) (hgr.block _ (by show wr.heap.size < _; first | (simp; done) | omega | (simp; omega)) (ne_blk hgz))
      have hz5 := hgr.size
      have HRD := Lib.hid hrd
      have HGR := Lib.hid hgr
      obtain ⟨o5, b5⟩ := read_keep (ref_below HS.out HO.out HE.out (by exact (hB3.out))).2.1 (ref_below HS.out HO.out HE.out (by exact (hB3.out))).2.2 hgr
      have HO5 := Lib.hid o5
      have hz5' := rd_lt hrd
      clear hrd hgr o5 b5
      go_wp2_with (at_builtin; refine wpList_append_own _ rfl _ _ 22 rfl (w.heap.size + 2) 33 i0 _ 5 48 Try.underToks hi hz0 hz1 hz2 rfl (by decide) _ _ _ rfl (HO5.out.alloc _) ⟨w5.heap.size, 0, none⟩ 1 1 (tokCells ⟨3, txt, 0, p.1, p.2⟩) rfl rfl (tok_at w5 ⟨3, txt, 0, p.1, p.2⟩ _ _ rfl) (tok_one _) (by simp [maxLen]; omega) (by omega) (by simp; omega) ?_; intro v' w6 hown' hgrow _)
      have R := Lib.hid (ref_tok HS.out HP.out HO.out HE.out (by exact (hB3.out)) HRD.out HGR.out (by omega) (by omega) hcnt H.out HX.out hgrow hown')
      clear hown' hgrow hk5
      go_wp2
      refine Handed.intro (l.length - o) HMM.out ?_
      refine hJ _ _ _ ?_
      unfold RI
      (repeat apply Exists.intro)
      exact ⟨R.out, rfl⟩
end

section
open Go.RowKit Lx
attribute [local go_sem] bt_size bt_get bt_list bt_toList bt_drop bt_take

set_option maxHeartbeats 4000000 in
set_option maxRecDepth 1000000 in
theorem cs_m8t (l : List UInt8) (w : World) (h : l.length ≤ 16384) (J : Nat → Act → World → Prop) (K K1 : Act → World → Prop) (gk : Nat) (wr : World) (c1 c14 c15 c16 c17 c18 c19 c20 c263 c264 c265 c266 c267 c268 c269 c270 c271 c272 c273 c274 c275 u2 u5 u6 u7 u8 u9 u10 u11 u12 u13 u21 u22 u23 u24 u25 u26 u27 u28 u29 u30 u31 u32 u33 u34 u35 u36 u37 u38 u39 u40 u41 u42 u43 u44 u45 u46 u47 u48 u49 u50 u51 u52 u53 u54 u55 u56 u57 u58 u59 u60 u61 u62 u63 u64 u65 u66 u67 u68 u69 u70 u71 u72 u73 u74 u75 u76 u77 u78 u79 u80 u81 u82 u83 u84 u85 u86 u87 u88 u89 u90 u91 u92 u93 u94 u95 u96 u97 u98 u99 u100 u101 u102 u103 u104 u105 u106 u107 u108 u109 u110 u111 u112 u113 u114 u115 u116 u117 u118 u119 u120 u121 u122 u123 u124 u125 u126 u127 u128 u129 u130 u131 u132 u133 u134 u135 u136 u137 u138 u139 u140 u141 u142 u143 u144 u145 u146 u147 u148 u149 u150 u151 u152 u153 u154 u155 u156 u157 u158 u159 u160 u161 u162 u163 u164 u165 u166 u167 u168 u169 u170 u171 u172 u173 u174 u175 u176 u177 u178 u179 u180 u181 u182 u183 u184 u185 u186 u187 u188 u189 u190 u191 u192 u193 u194 u195 u196 u197 u198 u199 u200 u201 u202 u203 u204 u205 u206 u207 u208 u209 u210 u211 u212 u213 u214 u215 u216 u217 u218 u219 u220 u221 u222 u223 u224 u225 u226 u227 u228 u229 u230 u231 u232 u233 u234 u235 u236 u237 u238 u239 u240 u241 u242 u243 u244 u245 u246 u247 u248 u249 u250 u251 u252 u253 u254 u255 u256 u257 u258 u259 u260 u261 u262 : Value) (o : Nat) (p : Nat × Nat) (ts : List Tk)
    (hrel : RefAt w l gk u5 wr o p ts) (hlt : o < l.length) (hsp : ¬ spaceB l[o] = true) (hop : ¬ openB (l.drop o) = true) (h1 : letB l[o] = false) (h95 : ¬ l[o] = 95) (h3 : digB l[o] = false) (h4 : symB l[o] = true) (hA : ((l.drop o).takeWhile symB).all dashB = true) (hC : ¬ (((l.drop o).takeWhile symB).all dashB = true ∧ 2 ≤ ((l.drop o).takeWhile symB).length)) (hon0 : oneB signsL ((l.drop o).takeWhile symB) = true) 
    (hJ : ∀ k a' w', RI w l c1 c14 c15 c16 c17 c18 c19 c20 c263 c264 c265 c266 c267 c268 c269 c270 c271 c272 c273 c274 c275 k a' w' → J k a' w') (hK : ∀ a' w', Handed J gk a' w' → K a' w') :
    Code.wp Try.prog refBody (Exit.then K (Exit.inBlock 0 (Exit.then K1 (bodyPost Try.prog Try.f9 (fun e w' => ReadPost w l e w'))))) ⟨#[.string (bt l), c1, u2, .pointer (some ⟨w.heap.size, 0, none⟩), .pointer (some ⟨w.heap.size + 1, 0, none⟩), u5, u6, u7, u8, u9, u10, u11, u12, u13, c14, c15, c16, c17, c18, c19, c20, u21, u22, u23, u24, u25, u26, u27, u28, u29, u30, u31, u32, u33, u34, u35, u36, u37, u38, u39, u40, u41, u42, u43, u44, u45, u46, u47, u48, u49, u50, u51, u52, u53, u54, u55, u56, u57, u58, u59, u60, u61, u62, u63, u64, u65, u66, u67, u68, u69, u70, u71, u72, u73, u74, u75, u76, u77, u78, u79, u80, u81, u82, u83, u84, u85, u86, u87, u88, u89, u90, u91, u92, u93, u94, u95, u96, u97, u98, u99, u100, u101, u102, u103, u104, u105, u106, u107, u108, u109, u110, u111, u112, u113, u114, u115, u116, u117, u118, u119, u120, u121, u122, u123, u124, u125, u126, u127, u128, u129, u130, u131, u132, u133, u134, u135, u136, u137, u138, u139, u140, u141, u142, u143, u144, u145, u146, u147, u148, u149, u150, u151, u152, u153, u154, u155, u156, u157, u158, u159, u160, u161, u162, u163, u164, u165, u166, u167, u168, u169, u170, u171, u172, u173, u174, u175, u176, u177, u178, u179, u180, u181, u182, u183, u184, u185, u186, u187, u188, u189, u190, u191, u192, u193, u194, u195, u196, u197, u198, u199, u200, u201, u202, u203, u204, u205, u206, u207, u208, u209, u210, u211, u212, u213, u214, u215, u216, u217, u218, u219, u220, u221, u222, u223, u224, u225, u226, u227, u228, u229, u230, u231, u232, u233, u234, u235, u236, u237, u238, u239, u240, u241, u242, u243, u244, u245, u246, u247, u248, u249, u250, u251, u252, u253, u254, u255, u256, u257, u258, u259, u260, u261, u262, c263, c264, c265, c266, c267, c268, c269, c270, c271, c272, c273, c274, c275], []⟩ wr := by
  obtain ⟨i0, hi, hz0, hz1, hz2⟩ := info_parts Try.infoTok
  obtain ⟨hs, hp, ho, hown, hbe, hcnt, hall, hmm⟩ := hrel
  obtain ⟨c0', c1', c2', c3'⟩ := rd_cells hs
  have hgz := rd_lt hs
  have hbd := adv_bd (l.take o) (1, 1) (by simp)
  rw [← hp] at hbd
  have htl : (l.take o).length ≤ o := List.length_take_le _ _
  simp only at hbd
  obtain ⟨bd1, bd2⟩ := hbd
  have bd3 : 1 ≤ p.2 := by rw [hp, advL_eq]; split <;> simp
  have H := Lib.hid hall
  have HS := Lib.hid hs
  have HP := Lib.hid hp
  have HO := Lib.hid hown
  have HE := Lib.hid hbe
  have HMM := Lib.hid hmm
  clear hall hs hp hown hbe hmm
  have hd := List.drop_eq_getElem_cons hlt
  have HD := Lib.hid hd
  clear hd
  have hb8 : (l[o].toNat : Int) ≤ 255 := by have := l[o].toNat_lt; omega
  have HA := Lib.hid hA
  have HC := Lib.hid hC
  clear hA hC
  have hon0_H := Lib.hid hon0
  clear hon0
  have hsp' : spaceB l[o] = false := by simpa using hsp
  have q1 : ((l[o].toNat : Int) == 32) = false := byte_ne (b := 32) (fun e => by rw [e] at hsp'; exact absurd hsp' (by decide))
  have q2 : ((l[o].toNat : Int) == 10) = false := byte_ne (b := 10) (fun e => by rw [e] at hsp'; exact absurd hsp' (by decide))
  have hop' : openB (l.drop o) = false := by simpa using hop
  have r12 : ((l[o].toNat : Int) == 123) = false ∨ (((l[o].toNat : Int) == 123) = true ∧ ¬ o + 1 < l.length) ∨ (((l[o].toNat : Int) == 123) = true ∧ ∃ h2 : o + 1 < l.length, ((l[o + 1].toNat : Int) == 45) = false) := by
    by_cases e : l[o] = 123
    · by_cases h2 : o + 1 < l.length
      · refine .inr (.inr ⟨by rw [e]; rfl, h2, byte_ne (b := 45) ?_⟩)
        intro e2
        rw [HD.out, List.drop_eq_getElem_cons h2, e, e2] at hop'
        simp [openB, List.isPrefixOf] at hop'
      · exact .inr (.inl ⟨by rw [e]; rfl, h2⟩)
    · exact .inl (byte_ne e)
  have g95 : ((l[o].toNat : Int) == 95) = false := byte_ne h95
  have r1 : ((l[o].toNat : Int) == 123) = false := byte_ne (b := 123) (fun e => by rw [e] at h4; exact absurd h4 (by decide))
  obtain ⟨txt, htx⟩ : ∃ txt, txt = (l.drop o).takeWhile symB := ⟨_, rfl⟩
  have hn1 : 1 ≤ txt.length := by rw [htx, HD.out, tw_cons h4]; simp
  have hn2 : o + txt.length ≤ l.length := by
    rw [htx]
    have := takeWhile_len symB (l.drop o)
    simp at this
    omega
  have hex : (bt l).extract o (o + txt.length) = bt txt := by
    rw [bt_extract, show o + txt.length - o = txt.length from by omega, htx, ← tw_take2]
  have hhd : txt.headD 0 = l[o] := by rw [htx, HD.out, tw_cons h4]; rfl
  have hgp : gapL (l.drop o) = some (lineL (l.drop o)) := by
    unfold gapL
    rw [if_pos (by rw [HD.out]; simp only [List.takeWhile_cons, hsp']; rfl), if_neg (by rw [hop']; exact Bool.false_ne_true)]
  have hli : lineL (l.drop o) = if txt.length < 2 || !(txt.takeWhile dashB == txt) then 0 else ((l.drop o).takeWhile nlB).length := by
    unfold lineL
    rw [← htx]
  have HGp := Lib.hid hgp
  have HLi := Lib.hid hli
  have HTx := Lib.hid htx
  have HHd := Lib.hid hhd
  clear hsp hop hop' r12 htx hhd hgp hli
  have i1 : (o : Int) + (txt.length : Int) ≤ (l.length : Int) := by omega
  have i2 : (o : Int) ≤ (o : Int) + (txt.length : Int) := by omega
  conv => arg 2; whnf
  go_wp2
  go_region
  go_wp2_with fail
  refine (refLetter_any _ _).mono ?_
  rintro e w' ⟨rfl, rfl⟩
  rw [h1]
  go_wp2_with fail
  refine (refDigit_any _ _).mono ?_
  rintro e w' ⟨rfl, rfl⟩
  rw [h3]
  go_wp2_with fail
  refine (refMark_any _ _).mono ?_
  rintro e w' ⟨rfl, rfl⟩
  rw [h4]
  go_wp2_with fail
  refine (refRow_any _ (w.heap.size + 1) l o p 2 (by omega) (by exact (ref_below HS.out HO.out HE.out (by exact (blw_alloc (Below.refl _ _) _).drew)).1) (by omega) h).mono ?_
  rintro e w2 ⟨rfl, m, rfl⟩
  rw [show ((l.drop o).takeWhile (goesB 2)).length = txt.length from by rw [HTx.out]; rfl]
  go_wp2
  go_region
  go_wp2
  generalize hWW : World.setCell (World.drewN _ _) _ _ = W
  have q5 : T5 W wr.heap.size 0 txt 0 p := by
    rw [← hWW]
    refine ⟨?_, ?_, ?_, ?_, ?_, fun i => ?_, ?_⟩ <;> simp [go_sem]
  have qB : Below wr.heap.size wr W := by rw [← hWW]; exact blw_set (below_drewN' (blw_alloc (Below.refl _ _) _) _) _ _
  have QB := Lib.hid qB
  have Q5 := Lib.hid q5
  obtain ⟨t0, t1, t2, t3, t4, tf, tz⟩ := q5
  have tf0 := tf 0
  clear qB hWW tf
  go_loop [12, 13] (fun b i => ∃ k : Nat, k ≤ txt.length ∧ i = .int .i64 k ∧ b = .bool ((txt.take k).all dashB)) (fun _ i => txt.length - (intOf i).toNat)
  case atStart => exact ⟨0, Nat.zero_le _, rfl, rfl⟩
  case round =>
    obtain ⟨k, hk, rfl, rfl⟩ := hrel
    by_cases hkl : k < txt.length
    · have hsn : (txt.take (k + 1)).all dashB = ((txt.take k).all dashB && dashB txt[k]) := by
        rw [List.take_succ_eq_append_getElem hkl, List.all_append]
        simp
      have HSn := Lib.hid hsn
      clear hsn
      cases hb : (txt.take k).all dashB with
      | true =>
        by_cases hda : txt[k] = 45
        · have g45 : ((txt[k].toNat : Int) == 45) = true := by rw [hda]; rfl
          have hdb : dashB txt[k] = true := by rw [hda]; rfl
          have HDb := Lib.hid hdb
          have HBb := Lib.hid hb
          clear hda hdb hb
          go_wp2
          go_round
          case rel => exact ⟨k + 1, by omega, by go_num, by rw [HSn.out, HBb.out, HDb.out]; rfl⟩
          case measure => simp [intOf]; omega
        · have g45 : ((txt[k].toNat : Int) == 45) = false := byte_ne hda
          have hdb : dashB txt[k] = false := by simp [dashB, hda]
          have HDb := Lib.hid hdb
          have HBb := Lib.hid hb
          clear hda hdb hb
          go_wp2
          go_round
          case rel => exact ⟨k + 1, by omega, by go_num, by rw [HSn.out, HBb.out, HDb.out]; rfl⟩
          case measure => simp [intOf]; omega
      | false =>
        have HBb := Lib.hid hb
        clear hb
        go_wp2
        go_round
        case rel => exact ⟨k + 1, by omega, by go_num, by rw [HSn.out, HBb.out]; rfl⟩
        case measure => simp [intOf]; omega
    · rw [List.take_of_length_le (by omega)]
      have hcm : ¬ (txt.all dashB = true ∧ 2 ≤ txt.length) := by rw [HTx.out]; exact HC.out
      have hli : lineL (l.drop o) = 0 := by
        rw [HLi.out, if_pos (by
          simp only [Bool.or_eq_true, decide_eq_true_eq, Bool.not_eq_true', beq_eq_false_iff_ne]
          by_cases h2 : txt.length < 2
          · exact .inl h2
          · refine .inr (fun e => hcm ⟨?_, by omega⟩)
            rw [← e]
            exact all_takeWhile _ _)]
      have hgap : gapL (l.drop o) = some 0 := by rw [HGp.out, hli]
      have ht : tokG (l[o] :: l.drop (o + 1)) = speltG (operKindL txt) txt := by
        rw [tokG_cons, if_neg (by simp [h1, h95]), if_neg (by simp [h3]), if_pos h4, HTx.out, HD.out]
      have hx : lx (l.drop o) p = (lx ((l.drop o).drop txt.length) (advL p ((l.drop o).take txt.length))).map ((⟨operKindL txt, txt, 0, p.1, p.2⟩ : Tk) :: ·) := by
        rw [HD.out] at hgap ⊢
        rw [lx_tok hgap (by rw [ht]; rfl), ht]
        rfl
      have HX := Lib.hid hx
      have h2l : ¬ (2 : Int) ≤ (txt.length : Int) := fun h2 => HC.out ⟨HA.out, by rw [HTx.out] at h2; omega⟩
      clear hx hli hgap ht hcm h95
      rw [show txt.all dashB = true from by rw [HTx.out]; exact HA.out]
      go_wp2
      generalize hWW : World.setCell W _ _ = W2
      have q0 : W2.cell? ⟨wr.heap.size, 0, none⟩ = some (.int .i64 3) := by rw [← hWW]; simp [go_sem, t0]
      have q1' : W2.cell? ⟨wr.heap.size, 1, none⟩ = some (.string (bt txt)) := by rw [← hWW]; simp [go_sem, t1]
      have q2' : W2.cell? ⟨wr.heap.size, 2, none⟩ = some (.int .i64 0) := by rw [← hWW]; simp [go_sem, t2]
      have q3 : W2.cell? ⟨wr.heap.size, 3, none⟩ = some (.int .i64 (p.1 : Int)) := by rw [← hWW]; simp [go_sem, t3]
      have q4 : W2.cell? ⟨wr.heap.size, 4, none⟩ = some (.int .i64 (p.2 : Int)) := by rw [← hWW]; simp [go_sem, t4]
      have qf : W2.frozen? ⟨wr.heap.size, 0, none⟩ = false := by rw [← hWW]; simp [go_sem, tf0]
      have qz : wr.heap.size < W2.heap.size := by rw [← hWW]; simpa using tz
      have qB2 : Below wr.heap.size wr W2 := by rw [← hWW]; exact blw_set QB.out _ _
      have QB2 := Lib.hid qB2
      clear qB2 hWW t0 t1 t2 t3 t4 tf0
      go_region_held3 (fun w' => w'.cell? ⟨wr.heap.size, 1, none⟩ = some (.string (bt txt))) (go_keep)
        (first
          | (go_at_call 28; refine (refSigns_any _).mono ?_; rintro e w3 ⟨b3, rfl, hb31, hb32, hcells, hbel⟩; have HCells := Lib.hid hcells; have HBel := Lib.hid hbel; have hk3 := fun j => hbel.cell (p := ⟨wr.heap.size, j, none⟩) (by first | exact qz | (simp; omega)); have hf3 := fun j => hbel.frozen (p := ⟨wr.heap.size, j, none⟩) (by first | exact qz | (simp; omega)); clear hcells hbel)
          | (go_at_call 24; refine (refOne_any txt signsL b3 8 _ (by decide) HCells.out).mono ?_; rintro e w4 ⟨rfl, rfl⟩))
      have z3 : wr.heap.size < w3.heap.size := by have := HBel.out.size; have e : W2.drew.heap.size = W2.heap.size := rfl; omega
      have t0 : w3.cell? ⟨wr.heap.size, 0, none⟩ = some (.int .i64 3) := (HBel.out.cell (p := ⟨wr.heap.size, 0, none⟩) qz).trans q0
      have t1 : w3.cell? ⟨wr.heap.size, 1, none⟩ = some (.string (bt txt)) := (HBel.out.cell (p := ⟨wr.heap.size, 1, none⟩) qz).trans q1'
      have t2 : w3.cell? ⟨wr.heap.size, 2, none⟩ = some (.int .i64 0) := (HBel.out.cell (p := ⟨wr.heap.size, 2, none⟩) qz).trans q2'
      have t3 : w3.cell? ⟨wr.heap.size, 3, none⟩ = some (.int .i64 (p.1 : Int)) := (HBel.out.cell (p := ⟨wr.heap.size, 3, none⟩) qz).trans q3
      have t4 : w3.cell? ⟨wr.heap.size, 4, none⟩ = some (.int .i64 (p.2 : Int)) := (HBel.out.cell (p := ⟨wr.heap.size, 4, none⟩) qz).trans q4
      have tf : w3.frozen? ⟨wr.heap.size, 0, none⟩ = false := (HBel.out.frozen (p := ⟨wr.heap.size, 0, none⟩) qz).trans qf
      have hB3 := Lib.hid (blw_trans QB2.out.drew HBel.out)
      clear q0 q1' q2' q3 q4 qf qz hk3 hf3
      have hon0 := hon0_H.out
      clear hon0_H
      have hon := hon0
      rw [← HTx.out] at hon
      rw [hon]
      clear hon0
      have hkd : operKindL txt = 8 := by rw [operKindL, if_pos hon]
      have HX2 := Lib.hid (by have := HX.out; rw [hkd] at this; exact this)
      clear hkd HX
      have HX := HX2
      go_wp2_with fail
      refine (refOn_any _ (w.heap.size + 1) l o p (txt.length) (by exact (ref_below HS.out HO.out HE.out (by exact (blw_set (hB3.out) _ _))).1) (by omega) h (by omega) (by omega) bd3).mono ?_
      rintro e w5 ⟨rfl, hrd, hgr⟩
      have hk5 : ∀ j, w5.cell? ⟨wr.heap.size, j, none⟩ = _ := fun j => World.cell?_of_block (a := ⟨wr.heap.size, j, none⟩) (hgr.block _ (by show wr.heap.size < _; first | (simp; done) | omega | (simp; omega)) (ne_blk hgz))
      have hz5 := hgr.size
      have HRD := Lib.hid hrd
      have HGR := Lib.hid hgr
      obtain ⟨o5, b5⟩ := read_keep (ref_below HS.out HO.out HE.out (by exact (blw_set (hB3.out) _ _))).2.1 (ref_below HS.out HO.out HE.out (by exact (blw_set (hB3.out) _ _))).2.2 hgr
      have HO5 := Lib.hid o5
      have hz5' := rd_lt hrd
      clear hrd hgr o5 b5
      go_wp2_with (at_builtin; refine wpList_append_own _ rfl _ _ 22 rfl (w.heap.size + 2) 33 i0 _ 5 48 Try.underToks hi hz0 hz1 hz2 rfl (by decide) _ _ _ rfl (HO5.out.alloc _) ⟨w5.heap.size, 0, none⟩ 1 1 (tokCells ⟨8, txt, 0, p.1, p.2⟩) rfl rfl (tok_at w5 ⟨8, txt, 0, p.1, p.2⟩ _ _ rfl) (tok_one _) (by simp [maxLen]; omega) (by omega) (by simp; omega) ?_; intro v' w6 hown' hgrow _)
      have R := Lib.hid (ref_tok HS.out HP.out HO.out HE.out (by exact (blw_set (hB3.out) _ _)) HRD.out HGR.out (by omega) (by omega) hcnt H.out HX.out hgrow hown')
      clear hown' hgrow hk5
      go_wp2
      refine Handed.intro (l.length - o) HMM.out ?_
      refine hJ _ _ _ ?_
      unfold RI
      (repeat apply Exists.intro)
      exact ⟨R.out, rfl⟩
end

section
open Go.RowKit Lx
attribute [local go_sem] bt_size bt_get bt_list bt_toList bt_drop bt_take

set_option maxHeartbeats 4000000 in
set_option maxRecDepth 1000000 in
theorem cs_m4t (l : List UInt8) (w : World) (h : l.length ≤ 16384) (J : Nat → Act → World → Prop) (K K1 : Act → World → Prop) (gk : Nat) (wr : World) (c1 c14 c15 c16 c17 c18 c19 c20 c263 c264 c265 c266 c267 c268 c269 c270 c271 c272 c273 c274 c275 u2 u5 u6 u7 u8 u9 u10 u11 u12 u13 u21 u22 u23 u24 u25 u26 u27 u28 u29 u30 u31 u32 u33 u34 u35 u36 u37 u38 u39 u40 u41 u42 u43 u44 u45 u46 u47 u48 u49 u50 u51 u52 u53 u54 u55 u56 u57 u58 u59 u60 u61 u62 u63 u64 u65 u66 u67 u68 u69 u70 u71 u72 u73 u74 u75 u76 u77 u78 u79 u80 u81 u82 u83 u84 u85 u86 u87 u88 u89 u90 u91 u92 u93 u94 u95 u96 u97 u98 u99 u100 u101 u102 u103 u104 u105 u106 u107 u108 u109 u110 u111 u112 u113 u114 u115 u116 u117 u118 u119 u120 u121 u122 u123 u124 u125 u126 u127 u128 u129 u130 u131 u132 u133 u134 u135 u136 u137 u138 u139 u140 u141 u142 u143 u144 u145 u146 u147 u148 u149 u150 u151 u152 u153 u154 u155 u156 u157 u158 u159 u160 u161 u162 u163 u164 u165 u166 u167 u168 u169 u170 u171 u172 u173 u174 u175 u176 u177 u178 u179 u180 u181 u182 u183 u184 u185 u186 u187 u188 u189 u190 u191 u192 u193 u194 u195 u196 u197 u198 u199 u200 u201 u202 u203 u204 u205 u206 u207 u208 u209 u210 u211 u212 u213 u214 u215 u216 u217 u218 u219 u220 u221 u222 u223 u224 u225 u226 u227 u228 u229 u230 u231 u232 u233 u234 u235 u236 u237 u238 u239 u240 u241 u242 u243 u244 u245 u246 u247 u248 u249 u250 u251 u252 u253 u254 u255 u256 u257 u258 u259 u260 u261 u262 : Value) (o : Nat) (p : Nat × Nat) (ts : List Tk)
    (hrel : RefAt w l gk u5 wr o p ts) (hlt : o < l.length) (hsp : ¬ spaceB l[o] = true) (hop : ¬ openB (l.drop o) = true) (h1 : letB l[o] = false) (h95 : ¬ l[o] = 95) (h3 : digB l[o] = false) (h4 : symB l[o] = true) (hA : ((l.drop o).takeWhile symB).all dashB = true) (hC : ¬ (((l.drop o).takeWhile symB).all dashB = true ∧ 2 ≤ ((l.drop o).takeWhile symB).length)) (hon0 : oneB signsL ((l.drop o).takeWhile symB) = false) (h58 : l[o] = 58)
    (hJ : ∀ k a' w', RI w l c1 c14 c15 c16 c17 c18 c19 c20 c263 c264 c265 c266 c267 c268 c269 c270 c271 c272 c273 c274 c275 k a' w' → J k a' w') (hK : ∀ a' w', Handed J gk a' w' → K a' w') :
    Code.wp Try.prog refBody (Exit.then K (Exit.inBlock 0 (Exit.then K1 (bodyPost Try.prog Try.f9 (fun e w' => ReadPost w l e w'))))) ⟨#[.string (bt l), c1, u2, .pointer (some ⟨w.heap.size, 0, none⟩), .pointer (some ⟨w.heap.size + 1, 0, none⟩), u5, u6, u7, u8, u9, u10, u11, u12, u13, c14, c15, c16, c17, c18, c19, c20, u21, u22, u23, u24, u25, u26, u27, u28, u29, u30, u31, u32, u33, u34, u35, u36, u37, u38, u39, u40, u41, u42, u43, u44, u45, u46, u47, u48, u49, u50, u51, u52, u53, u54, u55, u56, u57, u58, u59, u60, u61, u62, u63, u64, u65, u66, u67, u68, u69, u70, u71, u72, u73, u74, u75, u76, u77, u78, u79, u80, u81, u82, u83, u84, u85, u86, u87, u88, u89, u90, u91, u92, u93, u94, u95, u96, u97, u98, u99, u100, u101, u102, u103, u104, u105, u106, u107, u108, u109, u110, u111, u112, u113, u114, u115, u116, u117, u118, u119, u120, u121, u122, u123, u124, u125, u126, u127, u128, u129, u130, u131, u132, u133, u134, u135, u136, u137, u138, u139, u140, u141, u142, u143, u144, u145, u146, u147, u148, u149, u150, u151, u152, u153, u154, u155, u156, u157, u158, u159, u160, u161, u162, u163, u164, u165, u166, u167, u168, u169, u170, u171, u172, u173, u174, u175, u176, u177, u178, u179, u180, u181, u182, u183, u184, u185, u186, u187, u188, u189, u190, u191, u192, u193, u194, u195, u196, u197, u198, u199, u200, u201, u202, u203, u204, u205, u206, u207, u208, u209, u210, u211, u212, u213, u214, u215, u216, u217, u218, u219, u220, u221, u222, u223, u224, u225, u226, u227, u228, u229, u230, u231, u232, u233, u234, u235, u236, u237, u238, u239, u240, u241, u242, u243, u244, u245, u246, u247, u248, u249, u250, u251, u252, u253, u254, u255, u256, u257, u258, u259, u260, u261, u262, c263, c264, c265, c266, c267, c268, c269, c270, c271, c272, c273, c274, c275], []⟩ wr := by
  obtain ⟨i0, hi, hz0, hz1, hz2⟩ := info_parts Try.infoTok
  obtain ⟨hs, hp, ho, hown, hbe, hcnt, hall, hmm⟩ := hrel
  obtain ⟨c0', c1', c2', c3'⟩ := rd_cells hs
  have hgz := rd_lt hs
  have hbd := adv_bd (l.take o) (1, 1) (by simp)
  rw [← hp] at hbd
  have htl : (l.take o).length ≤ o := List.length_take_le _ _
  simp only at hbd
  obtain ⟨bd1, bd2⟩ := hbd
  have bd3 : 1 ≤ p.2 := by rw [hp, advL_eq]; split <;> simp
  have H := Lib.hid hall
  have HS := Lib.hid hs
  have HP := Lib.hid hp
  have HO := Lib.hid hown
  have HE := Lib.hid hbe
  have HMM := Lib.hid hmm
  clear hall hs hp hown hbe hmm
  have hd := List.drop_eq_getElem_cons hlt
  have HD := Lib.hid hd
  clear hd
  have hb8 : (l[o].toNat : Int) ≤ 255 := by have := l[o].toNat_lt; omega
  have HA := Lib.hid hA
  have HC := Lib.hid hC
  clear hA hC
  have hon0_H := Lib.hid hon0
  clear hon0
  have h58_H := Lib.hid h58
  clear h58
  have hsp' : spaceB l[o] = false := by simpa using hsp
  have q1 : ((l[o].toNat : Int) == 32) = false := byte_ne (b := 32) (fun e => by rw [e] at hsp'; exact absurd hsp' (by decide))
  have q2 : ((l[o].toNat : Int) == 10) = false := byte_ne (b := 10) (fun e => by rw [e] at hsp'; exact absurd hsp' (by decide))
  have hop' : openB (l.drop o) = false := by simpa using hop
  have r12 : ((l[o].toNat : Int) == 123) = false ∨ (((l[o].toNat : Int) == 123) = true ∧ ¬ o + 1 < l.length) ∨ (((l[o].toNat : Int) == 123) = true ∧ ∃ h2 : o + 1 < l.length, ((l[o + 1].toNat : Int) == 45) = false) := by
    by_cases e : l[o] = 123
    · by_cases h2 : o + 1 < l.length
      · refine .inr (.inr ⟨by rw [e]; rfl, h2, byte_ne (b := 45) ?_⟩)
        intro e2
        rw [HD.out, List.drop_eq_getElem_cons h2, e, e2] at hop'
        simp [openB, List.isPrefixOf] at hop'
      · exact .inr (.inl ⟨by rw [e]; rfl, h2⟩)
    · exact .inl (byte_ne e)
  have g95 : ((l[o].toNat : Int) == 95) = false := byte_ne h95
  have r1 : ((l[o].toNat : Int) == 123) = false := byte_ne (b := 123) (fun e => by rw [e] at h4; exact absurd h4 (by decide))
  obtain ⟨txt, htx⟩ : ∃ txt, txt = (l.drop o).takeWhile symB := ⟨_, rfl⟩
  have hn1 : 1 ≤ txt.length := by rw [htx, HD.out, tw_cons h4]; simp
  have hn2 : o + txt.length ≤ l.length := by
    rw [htx]
    have := takeWhile_len symB (l.drop o)
    simp at this
    omega
  have hex : (bt l).extract o (o + txt.length) = bt txt := by
    rw [bt_extract, show o + txt.length - o = txt.length from by omega, htx, ← tw_take2]
  have hhd : txt.headD 0 = l[o] := by rw [htx, HD.out, tw_cons h4]; rfl
  have hgp : gapL (l.drop o) = some (lineL (l.drop o)) := by
    unfold gapL
    rw [if_pos (by rw [HD.out]; simp only [List.takeWhile_cons, hsp']; rfl), if_neg (by rw [hop']; exact Bool.false_ne_true)]
  have hli : lineL (l.drop o) = if txt.length < 2 || !(txt.takeWhile dashB == txt) then 0 else ((l.drop o).takeWhile nlB).length := by
    unfold lineL
    rw [← htx]
  have HGp := Lib.hid hgp
  have HLi := Lib.hid hli
  have HTx := Lib.hid htx
  have HHd := Lib.hid hhd
  clear hsp hop hop' r12 htx hhd hgp hli
  have i1 : (o : Int) + (txt.length : Int) ≤ (l.length : Int) := by omega
  have i2 : (o : Int) ≤ (o : Int) + (txt.length : Int) := by omega
  conv => arg 2; whnf
  go_wp2
  go_region
  go_wp2_with fail
  refine (refLetter_any _ _).mono ?_
  rintro e w' ⟨rfl, rfl⟩
  rw [h1]
  go_wp2_with fail
  refine (refDigit_any _ _).mono ?_
  rintro e w' ⟨rfl, rfl⟩
  rw [h3]
  go_wp2_with fail
  refine (refMark_any _ _).mono ?_
  rintro e w' ⟨rfl, rfl⟩
  rw [h4]
  go_wp2_with fail
  refine (refRow_any _ (w.heap.size + 1) l o p 2 (by omega) (by exact (ref_below HS.out HO.out HE.out (by exact (blw_alloc (Below.refl _ _) _).drew)).1) (by omega) h).mono ?_
  rintro e w2 ⟨rfl, m, rfl⟩
  rw [show ((l.drop o).takeWhile (goesB 2)).length = txt.length from by rw [HTx.out]; rfl]
  go_wp2
  go_region
  go_wp2
  generalize hWW : World.setCell (World.drewN _ _) _ _ = W
  have q5 : T5 W wr.heap.size 0 txt 0 p := by
    rw [← hWW]
    refine ⟨?_, ?_, ?_, ?_, ?_, fun i => ?_, ?_⟩ <;> simp [go_sem]
  have qB : Below wr.heap.size wr W := by rw [← hWW]; exact blw_set (below_drewN' (blw_alloc (Below.refl _ _) _) _) _ _
  have QB := Lib.hid qB
  have Q5 := Lib.hid q5
  obtain ⟨t0, t1, t2, t3, t4, tf, tz⟩ := q5
  have tf0 := tf 0
  clear qB hWW tf
  go_loop [12, 13] (fun b i => ∃ k : Nat, k ≤ txt.length ∧ i = .int .i64 k ∧ b = .bool ((txt.take k).all dashB)) (fun _ i => txt.length - (intOf i).toNat)
  case atStart => exact ⟨0, Nat.zero_le _, rfl, rfl⟩
  case round =>
    obtain ⟨k, hk, rfl, rfl⟩ := hrel
    by_cases hkl : k < txt.length
    · have hsn : (txt.take (k + 1)).all dashB = ((txt.take k).all dashB && dashB txt[k]) := by
        rw [List.take_succ_eq_append_getElem hkl, List.all_append]
        simp
      have HSn := Lib.hid hsn
      clear hsn
      cases hb : (txt.take k).all dashB with
      | true =>
        by_cases hda : txt[k] = 45
        · have g45 : ((txt[k].toNat : Int) == 45) = true := by rw [hda]; rfl
          have hdb : dashB txt[k] = true := by rw [hda]; rfl
          have HDb := Lib.hid hdb
          have HBb := Lib.hid hb
          clear hda hdb hb
          go_wp2
          go_round
          case rel => exact ⟨k + 1, by omega, by go_num, by rw [HSn.out, HBb.out, HDb.out]; rfl⟩
          case measure => simp [intOf]; omega
        · have g45 : ((txt[k].toNat : Int) == 45) = false := byte_ne hda
          have hdb : dashB txt[k] = false := by simp [dashB, hda]
          have HDb := Lib.hid hdb
          have HBb := Lib.hid hb
          clear hda hdb hb
          go_wp2
          go_round
          case rel => exact ⟨k + 1, by omega, by go_num, by rw [HSn.out, HBb.out, HDb.out]; rfl⟩
          case measure => simp [intOf]; omega
      | false =>
        have HBb := Lib.hid hb
        clear hb
        go_wp2
        go_round
        case rel => exact ⟨k + 1, by omega, by go_num, by rw [HSn.out, HBb.out]; rfl⟩
        case measure => simp [intOf]; omega
    · rw [List.take_of_length_le (by omega)]
      have hcm : ¬ (txt.all dashB = true ∧ 2 ≤ txt.length) := by rw [HTx.out]; exact HC.out
      have hli : lineL (l.drop o) = 0 := by
        rw [HLi.out, if_pos (by
          simp only [Bool.or_eq_true, decide_eq_true_eq, Bool.not_eq_true', beq_eq_false_iff_ne]
          by_cases h2 : txt.length < 2
          · exact .inl h2
          · refine .inr (fun e => hcm ⟨?_, by omega⟩)
            rw [← e]
            exact all_takeWhile _ _)]
      have hgap : gapL (l.drop o) = some 0 := by rw [HGp.out, hli]
      have ht : tokG (l[o] :: l.drop (o + 1)) = speltG (operKindL txt) txt := by
        rw [tokG_cons, if_neg (by simp [h1, h95]), if_neg (by simp [h3]), if_pos h4, HTx.out, HD.out]
      have hx : lx (l.drop o) p = (lx ((l.drop o).drop txt.length) (advL p ((l.drop o).take txt.length))).map ((⟨operKindL txt, txt, 0, p.1, p.2⟩ : Tk) :: ·) := by
        rw [HD.out] at hgap ⊢
        rw [lx_tok hgap (by rw [ht]; rfl), ht]
        rfl
      have HX := Lib.hid hx
      have h2l : ¬ (2 : Int) ≤ (txt.length : Int) := fun h2 => HC.out ⟨HA.out, by rw [HTx.out] at h2; omega⟩
      clear hx hli hgap ht hcm h95
      rw [show txt.all dashB = true from by rw [HTx.out]; exact HA.out]
      go_wp2
      generalize hWW : World.setCell W _ _ = W2
      have q0 : W2.cell? ⟨wr.heap.size, 0, none⟩ = some (.int .i64 3) := by rw [← hWW]; simp [go_sem, t0]
      have q1' : W2.cell? ⟨wr.heap.size, 1, none⟩ = some (.string (bt txt)) := by rw [← hWW]; simp [go_sem, t1]
      have q2' : W2.cell? ⟨wr.heap.size, 2, none⟩ = some (.int .i64 0) := by rw [← hWW]; simp [go_sem, t2]
      have q3 : W2.cell? ⟨wr.heap.size, 3, none⟩ = some (.int .i64 (p.1 : Int)) := by rw [← hWW]; simp [go_sem, t3]
      have q4 : W2.cell? ⟨wr.heap.size, 4, none⟩ = some (.int .i64 (p.2 : Int)) := by rw [← hWW]; simp [go_sem, t4]
      have qf : W2.frozen? ⟨wr.heap.size, 0, none⟩ = false := by rw [← hWW]; simp [go_sem, tf0]
      have qz : wr.heap.size < W2.heap.size := by rw [← hWW]; simpa using tz
      have qB2 : Below wr.heap.size wr W2 := by rw [← hWW]; exact blw_set QB.out _ _
      have QB2 := Lib.hid qB2
      clear qB2 hWW t0 t1 t2 t3 t4 tf0
      go_region_held3 (fun w' => w'.cell? ⟨wr.heap.size, 1, none⟩ = some (.string (bt txt))) (go_keep)
        (first
          | (go_at_call 28; refine (refSigns_any _).mono ?_; rintro e w3 ⟨b3, rfl, hb31, hb32, hcells, hbel⟩; have HCells := Lib.hid hcells; have HBel := Lib.hid hbel; have hk3 := fun j => hbel.cell (p := ⟨wr.heap.size, j, none⟩) (by first | exact qz | (simp; omega)); have hf3 := fun j => hbel.frozen (p := ⟨wr.heap.size, j, none⟩) (by first | exact qz | (simp; omega)); clear hcells hbel)
          | (go_at_call 24; refine (refOne_any txt signsL b3 8 _ (by decide) HCells.out).mono ?_; rintro e w4 ⟨rfl, rfl⟩))
      have z3 : wr.heap.size < w3.heap.size := by have := HBel.out.size; have e : W2.drew.heap.size = W2.heap.size := rfl; omega
      have t0 : w3.cell? ⟨wr.heap.size, 0, none⟩ = some (.int .i64 3) := (HBel.out.cell (p := ⟨wr.heap.size, 0, none⟩) qz).trans q0
      have t1 : w3.cell? ⟨wr.heap.size, 1, none⟩ = some (.string (bt txt)) := (HBel.out.cell (p := ⟨wr.heap.size, 1, none⟩) qz).trans q1'
      have t2 : w3.cell? ⟨wr.heap.size, 2, none⟩ = some (.int .i64 0) := (HBel.out.cell (p := ⟨wr.heap.size, 2, none⟩) qz).trans q2'
      have t3 : w3.cell? ⟨wr.heap.size, 3, none⟩ = some (.int .i64 (p.1 : Int)) := (HBel.out.cell (p := ⟨wr.heap.size, 3, none⟩) qz).trans q3
      have t4 : w3.cell? ⟨wr.heap.size, 4, none⟩ = some (.int .i64 (p.2 : Int)) := (HBel.out.cell (p := ⟨wr.heap.size, 4, none⟩) qz).trans q4
      have tf : w3.frozen? ⟨wr.heap.size, 0, none⟩ = false := (HBel.out.frozen (p := ⟨wr.heap.size, 0, none⟩) qz).trans qf
      have hB3 := Lib.hid (blw_trans QB2.out.drew HBel.out)
      clear q0 q1' q2' q3 q4 qf qz hk3 hf3
      have hon0 := hon0_H.out
      clear hon0_H
      have h58 := h58_H.out
      clear h58_H
      have hon := hon0
      rw [← HTx.out] at hon
      rw [hon]
      clear hon0
      have g58 : ((l[o].toNat : Int) == 58) = true := by rw [h58]; rfl
      have hkd : operKindL txt = 4 := by rw [operKindL, if_neg (by rw [hon]; exact Bool.false_ne_true), if_pos (by rw [HHd.out]; exact h58)]
      have HX2 := Lib.hid (by have := HX.out; rw [hkd] at this; exact this)
      clear hkd HX h58
      have HX := HX2
      go_wp2_with fail
      refine (refOn_any _ (w.heap.size + 1) l o p (txt.length) (by exact (ref_below HS.out HO.out HE.out (by exact (blw_set (hB3.out) _ _))).1) (by omega) h (by omega) (by omega) bd3).mono ?_
      rintro e w5 ⟨rfl, hrd, hgr⟩
      have hk5 : ∀ j, w5.cell? ⟨wr.heap.size, j, none⟩ = _ := fun j => World.cell?_of_block (a := ⟨wr.heap.size, j, none⟩) (hgr.block _ (by show wr.heap.size < _; first | (simp; done) | omega | (simp; omega)) (ne_blk hgz))
      have hz5 := hgr.size
      have HRD := Lib.hid hrd
      have HGR := Lib.hid hgr
      obtain ⟨o5, b5⟩ := read_keep (ref_below HS.out HO.out HE.out (by exact (blw_set (hB3.out) _ _))).2.1 (ref_below HS.out HO.out HE.out (by exact (blw_set (hB3.out) _ _))).2.2 hgr
      have HO5 := Lib.hid o5
      have hz5' := rd_lt hrd
      clear hrd hgr o5 b5
      go_wp2_with (at_builtin; refine wpList_append_own _ rfl _ _ 22 rfl (w.heap.size + 2) 33 i0 _ 5 48 Try.underToks hi hz0 hz1 hz2 rfl (by decide) _ _ _ rfl (HO5.out.alloc _) ⟨w5.heap.size, 0, none⟩ 1 1 (tokCells ⟨4, txt, 0, p.1, p.2⟩) rfl rfl (tok_at w5 ⟨4, txt, 0, p.1, p.2⟩ _ _ rfl) (tok_one _) (by simp [maxLen]; omega) (by omega) (by simp; omega) ?_; intro v' w6 hown' hgrow _)
      have R := Lib.hid (ref_tok HS.out HP.out HO.out HE.out (by exact (blw_set (hB3.out) _ _)) HRD.out HGR.out (by omega) (by omega) hcnt H.out HX.out hgrow hown')
      clear hown' hgrow hk5
      go_wp2
      refine Handed.intro (l.length - o) HMM.out ?_
      refine hJ _ _ _ ?_
      unfold RI
      (repeat apply Exists.intro)
      exact ⟨R.out, rfl⟩
end

section
open Go.RowKit Lx
attribute [local go_sem] bt_size bt_get bt_list bt_toList bt_drop bt_take

set_option maxHeartbeats 4000000 in
set_option maxRecDepth 1000000 in
theorem cs_m3t (l : List UInt8) (w : World) (h : l.length ≤ 16384) (J : Nat → Act → World → Prop) (K K1 : Act → World → Prop) (gk : Nat) (wr : World) (c1 c14 c15 c16 c17 c18 c19 c20 c263 c264 c265 c266 c267 c268 c269 c270 c271 c272 c273 c274 c275 u2 u5 u6 u7 u8 u9 u10 u11 u12 u13 u21 u22 u23 u24 u25 u26 u27 u28 u29 u30 u31 u32 u33 u34 u35 u36 u37 u38 u39 u40 u41 u42 u43 u44 u45 u46 u47 u48 u49 u50 u51 u52 u53 u54 u55 u56 u57 u58 u59 u60 u61 u62 u63 u64 u65 u66 u67 u68 u69 u70 u71 u72 u73 u74 u75 u76 u77 u78 u79 u80 u81 u82 u83 u84 u85 u86 u87 u88 u89 u90 u91 u92 u93 u94 u95 u96 u97 u98 u99 u100 u101 u102 u103 u104 u105 u106 u107 u108 u109 u110 u111 u112 u113 u114 u115 u116 u117 u118 u119 u120 u121 u122 u123 u124 u125 u126 u127 u128 u129 u130 u131 u132 u133 u134 u135 u136 u137 u138 u139 u140 u141 u142 u143 u144 u145 u146 u147 u148 u149 u150 u151 u152 u153 u154 u155 u156 u157 u158 u159 u160 u161 u162 u163 u164 u165 u166 u167 u168 u169 u170 u171 u172 u173 u174 u175 u176 u177 u178 u179 u180 u181 u182 u183 u184 u185 u186 u187 u188 u189 u190 u191 u192 u193 u194 u195 u196 u197 u198 u199 u200 u201 u202 u203 u204 u205 u206 u207 u208 u209 u210 u211 u212 u213 u214 u215 u216 u217 u218 u219 u220 u221 u222 u223 u224 u225 u226 u227 u228 u229 u230 u231 u232 u233 u234 u235 u236 u237 u238 u239 u240 u241 u242 u243 u244 u245 u246 u247 u248 u249 u250 u251 u252 u253 u254 u255 u256 u257 u258 u259 u260 u261 u262 : Value) (o : Nat) (p : Nat × Nat) (ts : List Tk)
    (hrel : RefAt w l gk u5 wr o p ts) (hlt : o < l.length) (hsp : ¬ spaceB l[o] = true) (hop : ¬ openB (l.drop o) = true) (h1 : letB l[o] = false) (h95 : ¬ l[o] = 95) (h3 : digB l[o] = false) (h4 : symB l[o] = true) (hA : ((l.drop o).takeWhile symB).all dashB = true) (hC : ¬ (((l.drop o).takeWhile symB).all dashB = true ∧ 2 ≤ ((l.drop o).takeWhile symB).length)) (hon0 : oneB signsL ((l.drop o).takeWhile symB) = false) (h58 : ¬ l[o] = 58)
    (hJ : ∀ k a' w', RI w l c1 c14 c15 c16 c17 c18 c19 c20 c263 c264 c265 c266 c267 c268 c269 c270 c271 c272 c273 c274 c275 k a' w' → J k a' w') (hK : ∀ a' w', Handed J gk a' w' → K a' w') :
    Code.wp Try.prog refBody (Exit.then K (Exit.inBlock 0 (Exit.then K1 (bodyPost Try.prog Try.f9 (fun e w' => ReadPost w l e w'))))) ⟨#[.string (bt l), c1, u2, .pointer (some ⟨w.heap.size, 0, none⟩), .pointer (some ⟨w.heap.size + 1, 0, none⟩), u5, u6, u7, u8, u9, u10, u11, u12, u13, c14, c15, c16, c17, c18, c19, c20, u21, u22, u23, u24, u25, u26, u27, u28, u29, u30, u31, u32, u33, u34, u35, u36, u37, u38, u39, u40, u41, u42, u43, u44, u45, u46, u47, u48, u49, u50, u51, u52, u53, u54, u55, u56, u57, u58, u59, u60, u61, u62, u63, u64, u65, u66, u67, u68, u69, u70, u71, u72, u73, u74, u75, u76, u77, u78, u79, u80, u81, u82, u83, u84, u85, u86, u87, u88, u89, u90, u91, u92, u93, u94, u95, u96, u97, u98, u99, u100, u101, u102, u103, u104, u105, u106, u107, u108, u109, u110, u111, u112, u113, u114, u115, u116, u117, u118, u119, u120, u121, u122, u123, u124, u125, u126, u127, u128, u129, u130, u131, u132, u133, u134, u135, u136, u137, u138, u139, u140, u141, u142, u143, u144, u145, u146, u147, u148, u149, u150, u151, u152, u153, u154, u155, u156, u157, u158, u159, u160, u161, u162, u163, u164, u165, u166, u167, u168, u169, u170, u171, u172, u173, u174, u175, u176, u177, u178, u179, u180, u181, u182, u183, u184, u185, u186, u187, u188, u189, u190, u191, u192, u193, u194, u195, u196, u197, u198, u199, u200, u201, u202, u203, u204, u205, u206, u207, u208, u209, u210, u211, u212, u213, u214, u215, u216, u217, u218, u219, u220, u221, u222, u223, u224, u225, u226, u227, u228, u229, u230, u231, u232, u233, u234, u235, u236, u237, u238, u239, u240, u241, u242, u243, u244, u245, u246, u247, u248, u249, u250, u251, u252, u253, u254, u255, u256, u257, u258, u259, u260, u261, u262, c263, c264, c265, c266, c267, c268, c269, c270, c271, c272, c273, c274, c275], []⟩ wr := by
  obtain ⟨i0, hi, hz0, hz1, hz2⟩ := info_parts Try.infoTok
  obtain ⟨hs, hp, ho, hown, hbe, hcnt, hall, hmm⟩ := hrel
  obtain ⟨c0', c1', c2', c3'⟩ := rd_cells hs
  have hgz := rd_lt hs
  have hbd := adv_bd (l.take o) (1, 1) (by simp)
  rw [← hp] at hbd
  have htl : (l.take o).length ≤ o := List.length_take_le _ _
  simp only at hbd
  obtain ⟨bd1, bd2⟩ := hbd
  have bd3 : 1 ≤ p.2 := by rw [hp, advL_eq]; split <;> simp
  have H := Lib.hid hall
  have HS := Lib.hid hs
  have HP := Lib.hid hp
  have HO := Lib.hid hown
  have HE := Lib.hid hbe
  have HMM := Lib.hid hmm
  clear hall hs hp hown hbe hmm
  have hd := List.drop_eq_getElem_cons hlt
  have HD := Lib.hid hd
  clear hd
  have hb8 : (l[o].toNat : Int) ≤ 255 := by have := l[o].toNat_lt; omega
  have HA := Lib.hid hA
  have HC := Lib.hid hC
  clear hA hC
  have hon0_H := Lib.hid hon0
  clear hon0
  have h58_H := Lib.hid h58
  clear h58
  have hsp' : spaceB l[o] = false := by simpa using hsp
  have q1 : ((l[o].toNat : Int) == 32) = false := byte_ne (b := 32) (fun e => by rw [e] at hsp'; exact absurd hsp' (by decide))
  have q2 : ((l[o].toNat : Int) == 10) = false := byte_ne (b := 10) (fun e => by rw [e] at hsp'; exact absurd hsp' (by decide))
  have hop' : openB (l.drop o) = false := by simpa using hop
  have r12 : ((l[o].toNat : Int) == 123) = false ∨ (((l[o].toNat : Int) == 123) = true ∧ ¬ o + 1 < l.length) ∨ (((l[o].toNat : Int) == 123) = true ∧ ∃ h2 : o + 1 < l.length, ((l[o + 1].toNat : Int) == 45) = false) := by
    by_cases e : l[o] = 123
    · by_cases h2 : o + 1 < l.length
      · refine .inr (.inr ⟨by rw [e]; rfl, h2, byte_ne (b := 45) ?_⟩)
        intro e2
        rw [HD.out, List.drop_eq_getElem_cons h2, e, e2] at hop'
        simp [openB, List.isPrefixOf] at hop'
      · exact .inr (.inl ⟨by rw [e]; rfl, h2⟩)
    · exact .inl (byte_ne e)
  have g95 : ((l[o].toNat : Int) == 95) = false := byte_ne h95
  have r1 : ((l[o].toNat : Int) == 123) = false := byte_ne (b := 123) (fun e => by rw [e] at h4; exact absurd h4 (by decide))
  obtain ⟨txt, htx⟩ : ∃ txt, txt = (l.drop o).takeWhile symB := ⟨_, rfl⟩
  have hn1 : 1 ≤ txt.length := by rw [htx, HD.out, tw_cons h4]; simp
  have hn2 : o + txt.length ≤ l.length := by
    rw [htx]
    have := takeWhile_len symB (l.drop o)
    simp at this
    omega
  have hex : (bt l).extract o (o + txt.length) = bt txt := by
    rw [bt_extract, show o + txt.length - o = txt.length from by omega, htx, ← tw_take2]
  have hhd : txt.headD 0 = l[o] := by rw [htx, HD.out, tw_cons h4]; rfl
  have hgp : gapL (l.drop o) = some (lineL (l.drop o)) := by
    unfold gapL
    rw [if_pos (by rw [HD.out]; simp only [List.takeWhile_cons, hsp']; rfl), if_neg (by rw [hop']; exact Bool.false_ne_true)]
  have hli : lineL (l.drop o) = if txt.length < 2 || !(txt.takeWhile dashB == txt) then 0 else ((l.drop o).takeWhile nlB).length := by
    unfold lineL
    rw [← htx]
  have HGp := Lib.hid hgp
  have HLi := Lib.hid hli
  have HTx := Lib.hid htx
  have HHd := Lib.hid hhd
  clear hsp hop hop' r12 htx hhd hgp hli
  have i1 : (o : Int) + (txt.length : Int) ≤ (l.length : Int) := by omega
  have i2 : (o : Int) ≤ (o : Int) + (txt.length : Int) := by omega
  conv => arg 2; whnf
  go_wp2
  go_region
  go_wp2_with fail
  refine (refLetter_any _ _).mono ?_
  rintro e w' ⟨rfl, rfl⟩
  rw [h1]
  go_wp2_with fail
  refine (refDigit_any _ _).mono ?_
  rintro e w' ⟨rfl, rfl⟩
  rw [h3]
  go_wp2_with fail
  refine (refMark_any _ _).mono ?_
  rintro e w' ⟨rfl, rfl⟩
  rw [h4]
  go_wp2_with fail
  refine (refRow_any _ (w.heap.size + 1) l o p 2 (by omega) (by exact (ref_below HS.out HO.out HE.out (by exact (blw_alloc (Below.refl _ _) _).drew)).1) (by omega) h).mono ?_
  rintro e w2 ⟨rfl, m, rfl⟩
  rw [show ((l.drop o).takeWhile (goesB 2)).length = txt.length from by rw [HTx.out]; rfl]
  go_wp2
  go_region
  go_wp2
  generalize hWW : World.setCell (World.drewN _ _) _ _ = W
  have q5 : T5 W wr.heap.size 0 txt 0 p := by
    rw [← hWW]
    refine ⟨?_, ?_, ?_, ?_, ?_, fun i => ?_, ?_⟩ <;> simp [go_sem]
  have qB : Below wr.heap.size wr W := by rw [← hWW]; exact blw_set (below_drewN' (blw_alloc (Below.refl _ _) _) _) _ _
  have QB := Lib.hid qB
  have Q5 := Lib.hid q5
  obtain ⟨t0, t1, t2, t3, t4, tf, tz⟩ := q5
  have tf0 := tf 0
  clear qB hWW tf
  go_loop [12, 13] (fun b i => ∃ k : Nat, k ≤ txt.length ∧ i = .int .i64 k ∧ b = .bool ((txt.take k).all dashB)) (fun _ i => txt.length - (intOf i).toNat)
  case atStart => exact ⟨0, Nat.zero_le _, rfl, rfl⟩
  case round =>
    obtain ⟨k, hk, rfl, rfl⟩ := hrel
    by_cases hkl : k < txt.length
    · have hsn : (txt.take (k + 1)).all dashB = ((txt.take k).all dashB && dashB txt[k]) := by
        rw [List.take_succ_eq_append_getElem hkl, List.all_append]
        simp
      have HSn := Lib.hid hsn
      clear hsn
      cases hb : (txt.take k).all dashB with
      | true =>
        by_cases hda : txt[k] = 45
        · have g45 : ((txt[k].toNat : Int) == 45) = true := by rw [hda]; rfl
          have hdb : dashB txt[k] = true := by rw [hda]; rfl
          have HDb := Lib.hid hdb
          have HBb := Lib.hid hb
          clear hda hdb hb
          go_wp2
          go_round
          case rel => exact ⟨k + 1, by omega, by go_num, by rw [HSn.out, HBb.out, HDb.out]; rfl⟩
          case measure => simp [intOf]; omega
        · have g45 : ((txt[k].toNat : Int) == 45) = false := byte_ne hda
          have hdb : dashB txt[k] = false := by simp [dashB, hda]
          have HDb := Lib.hid hdb
          have HBb := Lib.hid hb
          clear hda hdb hb
          go_wp2
          go_round
          case rel => exact ⟨k + 1, by omega, by go_num, by rw [HSn.out, HBb.out, HDb.out]; rfl⟩
          case measure => simp [intOf]; omega
      | false =>
        have HBb := Lib.hid hb
        clear hb
        go_wp2
        go_round
        case rel => exact ⟨k + 1, by omega, by go_num, by rw [HSn.out, HBb.out]; rfl⟩
        case measure => simp [intOf]; omega
    · rw [List.take_of_length_le (by omega)]
      have hcm : ¬ (txt.all dashB = true ∧ 2 ≤ txt.length) := by rw [HTx.out]; exact HC.out
      have hli : lineL (l.drop o) = 0 := by
        rw [HLi.out, if_pos (by
          simp only [Bool.or_eq_true, decide_eq_true_eq, Bool.not_eq_true', beq_eq_false_iff_ne]
          by_cases h2 : txt.length < 2
          · exact .inl h2
          · refine .inr (fun e => hcm ⟨?_, by omega⟩)
            rw [← e]
            exact all_takeWhile _ _)]
      have hgap : gapL (l.drop o) = some 0 := by rw [HGp.out, hli]
      have ht : tokG (l[o] :: l.drop (o + 1)) = speltG (operKindL txt) txt := by
        rw [tokG_cons, if_neg (by simp [h1, h95]), if_neg (by simp [h3]), if_pos h4, HTx.out, HD.out]
      have hx : lx (l.drop o) p = (lx ((l.drop o).drop txt.length) (advL p ((l.drop o).take txt.length))).map ((⟨operKindL txt, txt, 0, p.1, p.2⟩ : Tk) :: ·) := by
        rw [HD.out] at hgap ⊢
        rw [lx_tok hgap (by rw [ht]; rfl), ht]
        rfl
      have HX := Lib.hid hx
      have h2l : ¬ (2 : Int) ≤ (txt.length : Int) := fun h2 => HC.out ⟨HA.out, by rw [HTx.out] at h2; omega⟩
      clear hx hli hgap ht hcm h95
      rw [show txt.all dashB = true from by rw [HTx.out]; exact HA.out]
      go_wp2
      generalize hWW : World.setCell W _ _ = W2
      have q0 : W2.cell? ⟨wr.heap.size, 0, none⟩ = some (.int .i64 3) := by rw [← hWW]; simp [go_sem, t0]
      have q1' : W2.cell? ⟨wr.heap.size, 1, none⟩ = some (.string (bt txt)) := by rw [← hWW]; simp [go_sem, t1]
      have q2' : W2.cell? ⟨wr.heap.size, 2, none⟩ = some (.int .i64 0) := by rw [← hWW]; simp [go_sem, t2]
      have q3 : W2.cell? ⟨wr.heap.size, 3, none⟩ = some (.int .i64 (p.1 : Int)) := by rw [← hWW]; simp [go_sem, t3]
      have q4 : W2.cell? ⟨wr.heap.size, 4, none⟩ = some (.int .i64 (p.2 : Int)) := by rw [← hWW]; simp [go_sem, t4]
      have qf : W2.frozen? ⟨wr.heap.size, 0, none⟩ = false := by rw [← hWW]; simp [go_sem, tf0]
      have qz : wr.heap.size < W2.heap.size := by rw [← hWW]; simpa using tz
      have qB2 : Below wr.heap.size wr W2 := by rw [← hWW]; exact blw_set QB.out _ _
      have QB2 := Lib.hid qB2
      clear qB2 hWW t0 t1 t2 t3 t4 tf0
      go_region_held3 (fun w' => w'.cell? ⟨wr.heap.size, 1, none⟩ = some (.string (bt txt))) (go_keep)
        (first
          | (go_at_call 28; refine (refSigns_any _).mono ?_; rintro e w3 ⟨b3, rfl, hb31, hb32, hcells, hbel⟩; have HCells := Lib.hid hcells; have HBel := Lib.hid hbel; have hk3 := fun j => hbel.cell (p := ⟨wr.heap.size, j, none⟩) (by first | exact qz | (simp; omega)); have hf3 := fun j => hbel.frozen (p := ⟨wr.heap.size, j, none⟩) (by first | exact qz | (simp; omega)); clear hcells hbel)
          | (go_at_call 24; refine (refOne_any txt signsL b3 8 _ (by decide) HCells.out).mono ?_; rintro e w4 ⟨rfl, rfl⟩))
      have z3 : wr.heap.size < w3.heap.size := by have := HBel.out.size; have e : W2.drew.heap.size = W2.heap.size := rfl; omega
      have t0 : w3.cell? ⟨wr.heap.size, 0, none⟩ = some (.int .i64 3) := (HBel.out.cell (p := ⟨wr.heap.size, 0, none⟩) qz).trans q0
      have t1 : w3.cell? ⟨wr.heap.size, 1, none⟩ = some (.string (bt txt)) := (HBel.out.cell (p := ⟨wr.heap.size, 1, none⟩) qz).trans q1'
      have t2 : w3.cell? ⟨wr.heap.size, 2, none⟩ = some (.int .i64 0) := (HBel.out.cell (p := ⟨wr.heap.size, 2, none⟩) qz).trans q2'
      have t3 : w3.cell? ⟨wr.heap.size, 3, none⟩ = some (.int .i64 (p.1 : Int)) := (HBel.out.cell (p := ⟨wr.heap.size, 3, none⟩) qz).trans q3
      have t4 : w3.cell? ⟨wr.heap.size, 4, none⟩ = some (.int .i64 (p.2 : Int)) := (HBel.out.cell (p := ⟨wr.heap.size, 4, none⟩) qz).trans q4
      have tf : w3.frozen? ⟨wr.heap.size, 0, none⟩ = false := (HBel.out.frozen (p := ⟨wr.heap.size, 0, none⟩) qz).trans qf
      have hB3 := Lib.hid (blw_trans QB2.out.drew HBel.out)
      clear q0 q1' q2' q3 q4 qf qz hk3 hf3
      have hon0 := hon0_H.out
      clear hon0_H
      have h58 := h58_H.out
      clear h58_H
      have hon := hon0
      rw [← HTx.out] at hon
      rw [hon]
      clear hon0
      have g58 : ((l[o].toNat : Int) == 58) = false := byte_ne h58
      have hkd : operKindL txt = 3 := by rw [operKindL, if_neg (by rw [hon]; exact Bool.false_ne_true), if_neg (by rw [HHd.out]; exact h58)]
      have HX2 := Lib.hid (by have := HX.out; rw [hkd] at this; exact this)
      clear hkd HX h58
      have HX := HX2
      go_wp2_with fail
      refine (refOn_any _ (w.heap.size + 1) l o p (txt.length) (by exact (ref_below HS.out HO.out HE.out (by exact (hB3.out))).1) (by omega) h (by omega) (by omega) bd3).mono ?_
      rintro e w5 ⟨rfl, hrd, hgr⟩
      have hk5 : ∀ j, w5.cell? ⟨wr.heap.size, j, none⟩ = _ := fun j => World.cell?_of_block (a := ⟨wr.heap.size, j, none⟩) (hgr.block _ (by show wr.heap.size < _; first | (simp; done) | omega | (simp; omega)) (ne_blk hgz))
      have hz5 := hgr.size
      have HRD := Lib.hid hrd
      have HGR := Lib.hid hgr
      obtain ⟨o5, b5⟩ := read_keep (ref_below HS.out HO.out HE.out (by exact (hB3.out))).2.1 (ref_below HS.out HO.out HE.out (by exact (hB3.out))).2.2 hgr
      have HO5 := Lib.hid o5
      have hz5' := rd_lt hrd
      clear hrd hgr o5 b5
      go_wp2_with (at_builtin; refine wpList_append_own _ rfl _ _ 22 rfl (w.heap.size + 2) 33 i0 _ 5 48 Try.underToks hi hz0 hz1 hz2 rfl (by decide) _ _ _ rfl (HO5.out.alloc _) ⟨w5.heap.size, 0, none⟩ 1 1 (tokCells ⟨3, txt, 0, p.1, p.2⟩) rfl rfl (tok_at w5 ⟨3, txt, 0, p.1, p.2⟩ _ _ rfl) (tok_one _) (by simp [maxLen]; omega) (by omega) (by simp; omega) ?_; intro v' w6 hown' hgrow _)
      have R := Lib.hid (ref_tok HS.out HP.out HO.out HE.out (by exact (hB3.out)) HRD.out HGR.out (by omega) (by omega) hcnt H.out HX.out hgrow hown')
      clear hown' hgrow hk5
      go_wp2
      refine Handed.intro (l.length - o) HMM.out ?_
      refine hJ _ _ _ ?_
      unfold RI
      (repeat apply Exists.intro)
      exact ⟨R.out, rfl⟩
end
end Go.Proofs.Ytbjbmehkcfpahaa
