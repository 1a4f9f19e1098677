/- One case of the contract of the object's token. No condition but bounds on what is open and laid. -/
import Derived.Test.YtbjbmehkcfpahaaLayTok
namespace Go.Proofs.Ytbjbmehkcfpahaa
open Go.RowKit Lx
attribute [local go_sem] bt_size bt_get bt_list bt_toList bt_drop bt_take
attribute [local go_sem ↓] Go.wp_at_zero Go.wp_at_succ

set_option maxHeartbeats 8000000 in
set_option maxRecDepth 100000 in
theorem token_yes (w : World) (s : St) (rs : List En) (out : List Rt) (t : Rt) (first : Bool) (h : LayAt w s rs out) (hn : rs.length + out.length ≤ 8000000) (hc : (true && curB t) = false) :
    Calls Try.prog 33 #[.pointer (some ⟨s.g, 0, none⟩), tokV t, .bool first, .bool true] w fun e w' => LinePost s w out (tokL t first true rs) e w' := by
  have HR := Lib.hid (tokL_eq t first true rs hc)
  have hbl := beg_len t true rs
  have HL0 := Lib.hid (h.below (below_alloc w (boxT t)))
  have HS0 := Lib.hid (Step.of_below s (below_alloc w (boxT t)))
  have HX0 := Lib.hid (BX.new h t)
  have HC := Lib.hid hc
  clear h hc
  unfold tokV
  go_enter Try.func33, Try.ntmps33
  go_wp2_with fail
  refine (isSign_any t [[123]] (w.heap.size + 1) 1 ((w.alloc (boxT t)).alloc (.cells (strObj [[123]]) 9)) (by decide) (by simp) (fun j h => strObj_cell2 w (boxT t) 9 [[123]] j h)).mono ?_
  rintro e w2 ⟨rfl, hb2⟩
  rw [show signT t [[123]] = false from by show curB t = false; have := HC.out; simpa using this]
  have hb2' := blw2 (below_alloc (w.alloc (boxT t)) (.cells (strObj [[123]]) 9)) hb2
  have HL2 := Lib.hid (HL0.out.below hb2')
  have HS2 := Lib.hid (HS0.out.trans (.of_below s hb2'))
  have HX2 := Lib.hid (HX0.out.below hb2')
  obtain ⟨x0, x1, x2, x3, x4⟩ := HX2.out.at_
  clear hb2 hb2'
  go_upto_region 5 with fail
  go_cut [9] (fun s9 wx => ∃ s1 : St, s9 = .bool (begL t true rs).1 ∧ LayAt wx s1 (begL t true rs).2.1 (out ++ (begL t true rs).2.2) ∧ Step s s1 w wx ∧ BX s1 wx w.heap.size t)
  case first =>
    go_wp2_with fail
    refine (begin_g w2 s rs out t t.col s.g rfl HL2.out (by omega)).mono ?_
    rintro e w3 ⟨rfl, s3, hl3, hs3⟩
    have HL3 := Lib.hid hl3
    have HS3 := Lib.hid (HS2.out.trans hs3)
    have HX3 := Lib.hid (HX2.out.step hs3)
    clear hl3 hs3 x0 x1 x2 x3 x4
    go_wp2_with fail
    go_meet
    exact ⟨s3, rfl, HL3.out, HS3.out, HX3.out⟩
  case rest =>
    clear x0 x1 x2 x3 x4
    obtain ⟨s1, rfl, hl1, hs1, hx1⟩ := hcut
    have HL1 := Lib.hid hl1
    have HS1 := Lib.hid hs1
    have HX1 := Lib.hid hx1
    obtain ⟨x0, x1, x2, x3, x4⟩ := HX1.out.at_
    clear hl1 hs1 hx1
    revert HR hbl HL1
    generalize begL t true rs = b
    obtain ⟨b1, r1, o1⟩ := b
    intro HR hbl HL1
    replace hbl : r1.length + o1.length ≤ rs.length + 2 := hbl
    replace HL1 : Hid (LayAt wc s1 r1 (out ++ o1)) := HL1
    dsimp only
    cases hsec : secL t first (b1, r1, o1) with
    | none =>
      have hfb : first = true ∧ b1 = false ∧ lnL t t.col (r1.length + 1) r1 = none := by
        unfold secL at hsec
        split at hsec
        · rename_i hc
          simp at hc
          exact ⟨hc.1, hc.2, hsec⟩
        · cases hsec
      obtain ⟨rfl, rfl, hln⟩ := hfb
      have HSe := Lib.hid hln
      have HSec := Lib.hid hsec
      clear hln hsec
      go_wp2_with fail
      refine (line_g wc s1 r1 _ t t.col s.g HS1.out.g HL1.out (by simp at hbl ⊢; omega)).mono ?_
      rintro e w2 hp
      unfold LinePost at hp
      rw [show lnL t t.col (r1.length + 1) r1 = none from HSe.out] at hp
      obtain ⟨rfl, s2, rs2, out2, hl2, hs2⟩ := hp
      have HL2 := Lib.hid hl2
      have HS2 := Lib.hid (HS1.out.trans hs2)
      clear hl2 hs2 x0 x1 x2 x3 x4
      go_wp2
      go_ret
      unfold LinePost
      rw [HR.out, HSec.out]
      exact ⟨rfl, s2, _, _, HL2.out, HS2.out⟩
    | some y =>
      obtain ⟨r2, o2⟩ := y
      have hl2 : r2.length + o2.length ≤ r1.length + 1 := sec_len hsec
      have hel := end_len t r2
      have HSec := Lib.hid hsec
      go_upto_region 6 with fail
      go_cut [44] (fun s44 wx => ∃ s2 : St, s44 = .bool false ∧ LayAt wx s2 r2 (out ++ o1 ++ o2) ∧ Step s s2 w wx ∧ BX s2 wx w.heap.size t)
      case first =>
        cases hfb : (first && !b1) with
        | true =>
          have hfb' : first = true ∧ b1 = false := by simpa using hfb
          obtain ⟨rfl, rfl⟩ := hfb'
          have HSe := Lib.hid (show lnL t t.col (r1.length + 1) r1 = some (r2, o2) from hsec)
          clear hsec hfb
          go_wp2_with fail
          refine (line_g wc s1 r1 _ t t.col s.g HS1.out.g HL1.out (by simp at hbl ⊢; omega)).mono ?_
          rintro e w2 hp
          unfold LinePost at hp
          rw [show lnL t t.col (r1.length + 1) r1 = some (r2, o2) from HSe.out] at hp
          obtain ⟨rfl, s2, hl2', hs2⟩ := hp
          have HL2 := Lib.hid hl2'
          have HS2 := Lib.hid (HS1.out.trans hs2)
          have HX2 := Lib.hid (HX1.out.step hs2)
          clear hl2' hs2 x0 x1 x2 x3 x4
          go_wp2_with fail
          go_meet
          exact ⟨s2, rfl, HL2.out, HS2.out, HX2.out⟩
        | false =>
          have he : r2 = r1 ∧ o2 = [] := by
            unfold secL at hsec
            rw [if_neg (by rw [hfb]; exact Bool.false_ne_true)] at hsec
            simp at hsec
            exact ⟨hsec.1.symm, hsec.2⟩
          obtain ⟨rfl, rfl⟩ := he
          clear hsec
          cases first <;> cases b1
          case true.false => simp at hfb
          all_goals
            clear hfb
            go_wp2_with fail
            go_meet
            exact ⟨s1, rfl, by simpa using HL1.out, HS1.out, HX1.out⟩
      case rest =>
        obtain ⟨s2, rfl, hl2', hs2, hx2⟩ := hcut
        have HL2 := Lib.hid hl2'
        have HS2 := Lib.hid hs2
        have HX2 := Lib.hid hx2
        clear hl2' hs2 hx2 x0 x1 x2 x3 x4 hsec
        obtain ⟨x0, x1, x2, x3, x4⟩ := HX2.out.at_
        have hob : (out ++ o1 ++ o2).length + r2.length ≤ 8000005 := by simp; omega
        replace hel : (endL t r2).1.length + (endL t r2).2.length + (out ++ o1 ++ o2).length ≤ 8000005 := by omega
        cases hclo : cloB t with
        | true =>
          cases hmrk : mrkB t with
          | true =>
            have HM := Lib.hid hmrk
            go_wp2_with fail
            refine (isCloser_any t _).mono ?_
            rintro e w3 ⟨rfl, hb3⟩
            rw [hclo]
            have HL3 := Lib.hid (HL2.out.below hb3)
            have HS3 := Lib.hid (HS2.out.trans (.of_below s2 hb3))
            have HX3 := Lib.hid (HX2.out.below hb3)
            clear x0 x1 x2 x3 x4 hb3
            obtain ⟨x0, x1, x2, x3, x4⟩ := HX3.out.at_
            go_wp2_with fail
            refine (close_g w3 s2 r2 _ t s.g HS3.out.g HL3.out (by omega) hclo).mono ?_
            rintro e w4 ⟨rfl, s4, hl4, hs4⟩
            have HL4 := Lib.hid (show LayAt w4 s4 (endL t r2).1 (out ++ o1 ++ o2 ++ (endL t r2).2) by rw [endL, if_pos hclo]; exact hl4)
            have HS4 := Lib.hid (HS3.out.trans hs4)
            have HX4 := Lib.hid (HX3.out.step hs4)
            clear x0 x1 x2 x3 x4 hl4 hs4
            obtain ⟨x0, x1, x2, x3, x4⟩ := HX4.out.at_
            go_wp2_with fail
            refine (emit_g w4 s4 _ _ t s.g HS4.out.g HL4.out (by simp at hel ⊢; omega)).mono ?_
            rintro e w5 ⟨rfl, s5, hl5, hs5⟩
            have HL5 := Lib.hid hl5
            have HS5 := Lib.hid (HS4.out.trans hs5)
            have HX5 := Lib.hid (HX4.out.step hs5)
            clear x0 x1 x2 x3 x4 hl5 hs5
            obtain ⟨x0, x1, x2, x3, x4⟩ := HX5.out.at_
            go_wp2_with fail
            refine (isMarked_any t _).mono ?_
            rintro e w6 ⟨rfl, hb6⟩
            rw [hmrk]
            have HL6 := Lib.hid (HL5.out.below hb6)
            have HS6 := Lib.hid (HS5.out.trans (.of_below s5 hb6))
            have HX6 := Lib.hid (HX5.out.below hb6)
            clear x0 x1 x2 x3 x4 hb6
            obtain ⟨x0, x1, x2, x3, x4⟩ := HX6.out.at_
            go_wp2
            go_region_with (first
              | (go_at_call 64; refine (mark_t t HM.out _).mono ?_; rintro e w7 ⟨rfl, hb7⟩; have HL7 := Lib.hid ((HL6.out.below (Below.refl _ _).drew).below hb7); have HS7 := Lib.hid (HS6.out.drew.trans (.of_below s5 hb7)); clear hb7)
              | (go_at_call 56; refine (push_g _ s5 _ _ (.mk (mkOf t.text)) s.g HS7.out.g HL7.out (by omega)).mono ?_; rintro e w8 ⟨rfl, s8, hl8, hs8⟩; have HL8 := Lib.hid hl8; have HS8 := Lib.hid (HS7.out.trans hs8); clear hl8 hs8))
            all_goals
              go_wp2
              go_ret
              unfold LinePost
              rw [HR.out, HSec.out]
              refine ⟨rfl, s8, ?_, HS8.out⟩
              have := HL8.out
              rw [mrkSt, if_pos HM.out]
              simpa [List.append_assoc] using this
          | false =>
            have HM := Lib.hid hmrk
            go_wp2_with fail
            refine (isCloser_any t _).mono ?_
            rintro e w3 ⟨rfl, hb3⟩
            rw [hclo]
            have HL3 := Lib.hid (HL2.out.below hb3)
            have HS3 := Lib.hid (HS2.out.trans (.of_below s2 hb3))
            have HX3 := Lib.hid (HX2.out.below hb3)
            clear x0 x1 x2 x3 x4 hb3
            obtain ⟨x0, x1, x2, x3, x4⟩ := HX3.out.at_
            go_wp2_with fail
            refine (close_g w3 s2 r2 _ t s.g HS3.out.g HL3.out (by omega) hclo).mono ?_
            rintro e w4 ⟨rfl, s4, hl4, hs4⟩
            have HL4 := Lib.hid (show LayAt w4 s4 (endL t r2).1 (out ++ o1 ++ o2 ++ (endL t r2).2) by rw [endL, if_pos hclo]; exact hl4)
            have HS4 := Lib.hid (HS3.out.trans hs4)
            have HX4 := Lib.hid (HX3.out.step hs4)
            clear x0 x1 x2 x3 x4 hl4 hs4
            obtain ⟨x0, x1, x2, x3, x4⟩ := HX4.out.at_
            go_wp2_with fail
            refine (emit_g w4 s4 _ _ t s.g HS4.out.g HL4.out (by simp at hel ⊢; omega)).mono ?_
            rintro e w5 ⟨rfl, s5, hl5, hs5⟩
            have HL5 := Lib.hid hl5
            have HS5 := Lib.hid (HS4.out.trans hs5)
            have HX5 := Lib.hid (HX4.out.step hs5)
            clear x0 x1 x2 x3 x4 hl5 hs5
            obtain ⟨x0, x1, x2, x3, x4⟩ := HX5.out.at_
            go_wp2_with fail
            refine (isMarked_any t _).mono ?_
            rintro e w6 ⟨rfl, hb6⟩
            rw [hmrk]
            have HL6 := Lib.hid (HL5.out.below hb6)
            have HS6 := Lib.hid (HS5.out.trans (.of_below s5 hb6))
            have HX6 := Lib.hid (HX5.out.below hb6)
            clear x0 x1 x2 x3 x4 hb6
            obtain ⟨x0, x1, x2, x3, x4⟩ := HX6.out.at_
            go_wp2
            go_ret
            unfold LinePost
            rw [HR.out, HSec.out]
            refine ⟨rfl, s5, ?_, HS6.out⟩
            have := HL6.out
            rw [mrkSt, if_neg (by rw [HM.out]; exact Bool.false_ne_true)]
            simpa [List.append_assoc] using this
        | false =>
          cases hmrk : mrkB t with
          | true =>
            have HM := Lib.hid hmrk
            go_wp2_with fail
            refine (isCloser_any t _).mono ?_
            rintro e w3 ⟨rfl, hb3⟩
            rw [hclo]
            have HL3 := Lib.hid (HL2.out.below hb3)
            have HS3 := Lib.hid (HS2.out.trans (.of_below s2 hb3))
            have HX3 := Lib.hid (HX2.out.below hb3)
            clear x0 x1 x2 x3 x4 hb3
            obtain ⟨x0, x1, x2, x3, x4⟩ := HX3.out.at_
            obtain ⟨w4, rfl⟩ : ∃ w4, w4 = w3 := ⟨_, rfl⟩
            have HL4 := Lib.hid (show LayAt w4 s2 (endL t r2).1 (out ++ o1 ++ o2 ++ (endL t r2).2) by rw [endL, if_neg (by rw [hclo]; exact Bool.false_ne_true)]; simpa using HL3.out)
            have HS4 := HS3
            have HX4 := HX3
            obtain ⟨s4, hs4e⟩ : ∃ s4, s4 = s2 := ⟨_, rfl⟩
            rw [← hs4e] at HL4 HS4 HX4
            clear hs4e
            go_wp2_with fail
            refine (emit_g w4 s4 _ _ t s.g HS4.out.g HL4.out (by simp at hel ⊢; omega)).mono ?_
            rintro e w5 ⟨rfl, s5, hl5, hs5⟩
            have HL5 := Lib.hid hl5
            have HS5 := Lib.hid (HS4.out.trans hs5)
            have HX5 := Lib.hid (HX4.out.step hs5)
            clear x0 x1 x2 x3 x4 hl5 hs5
            obtain ⟨x0, x1, x2, x3, x4⟩ := HX5.out.at_
            go_wp2_with fail
            refine (isMarked_any t _).mono ?_
            rintro e w6 ⟨rfl, hb6⟩
            rw [hmrk]
            have HL6 := Lib.hid (HL5.out.below hb6)
            have HS6 := Lib.hid (HS5.out.trans (.of_below s5 hb6))
            have HX6 := Lib.hid (HX5.out.below hb6)
            clear x0 x1 x2 x3 x4 hb6
            obtain ⟨x0, x1, x2, x3, x4⟩ := HX6.out.at_
            go_wp2
            go_region_with (first
              | (go_at_call 64; refine (mark_t t HM.out _).mono ?_; rintro e w7 ⟨rfl, hb7⟩; have HL7 := Lib.hid ((HL6.out.below (Below.refl _ _).drew).below hb7); have HS7 := Lib.hid (HS6.out.drew.trans (.of_below s5 hb7)); clear hb7)
              | (go_at_call 56; refine (push_g _ s5 _ _ (.mk (mkOf t.text)) s.g HS7.out.g HL7.out (by omega)).mono ?_; rintro e w8 ⟨rfl, s8, hl8, hs8⟩; have HL8 := Lib.hid hl8; have HS8 := Lib.hid (HS7.out.trans hs8); clear hl8 hs8))
            all_goals
              go_wp2
              go_ret
              unfold LinePost
              rw [HR.out, HSec.out]
              refine ⟨rfl, s8, ?_, HS8.out⟩
              have := HL8.out
              rw [mrkSt, if_pos HM.out]
              simpa [List.append_assoc] using this
          | false =>
            have HM := Lib.hid hmrk
            go_wp2_with fail
            refine (isCloser_any t _).mono ?_
            rintro e w3 ⟨rfl, hb3⟩
            rw [hclo]
            have HL3 := Lib.hid (HL2.out.below hb3)
            have HS3 := Lib.hid (HS2.out.trans (.of_below s2 hb3))
            have HX3 := Lib.hid (HX2.out.below hb3)
            clear x0 x1 x2 x3 x4 hb3
            obtain ⟨x0, x1, x2, x3, x4⟩ := HX3.out.at_
            obtain ⟨w4, rfl⟩ : ∃ w4, w4 = w3 := ⟨_, rfl⟩
            have HL4 := Lib.hid (show LayAt w4 s2 (endL t r2).1 (out ++ o1 ++ o2 ++ (endL t r2).2) by rw [endL, if_neg (by rw [hclo]; exact Bool.false_ne_true)]; simpa using HL3.out)
            have HS4 := HS3
            have HX4 := HX3
            obtain ⟨s4, hs4e⟩ : ∃ s4, s4 = s2 := ⟨_, rfl⟩
            rw [← hs4e] at HL4 HS4 HX4
            clear hs4e
            go_wp2_with fail
            refine (emit_g w4 s4 _ _ t s.g HS4.out.g HL4.out (by simp at hel ⊢; omega)).mono ?_
            rintro e w5 ⟨rfl, s5, hl5, hs5⟩
            have HL5 := Lib.hid hl5
            have HS5 := Lib.hid (HS4.out.trans hs5)
            have HX5 := Lib.hid (HX4.out.step hs5)
            clear x0 x1 x2 x3 x4 hl5 hs5
            obtain ⟨x0, x1, x2, x3, x4⟩ := HX5.out.at_
            go_wp2_with fail
            refine (isMarked_any t _).mono ?_
            rintro e w6 ⟨rfl, hb6⟩
            rw [hmrk]
            have HL6 := Lib.hid (HL5.out.below hb6)
            have HS6 := Lib.hid (HS5.out.trans (.of_below s5 hb6))
            have HX6 := Lib.hid (HX5.out.below hb6)
            clear x0 x1 x2 x3 x4 hb6
            obtain ⟨x0, x1, x2, x3, x4⟩ := HX6.out.at_
            go_wp2
            go_ret
            unfold LinePost
            rw [HR.out, HSec.out]
            refine ⟨rfl, s5, ?_, HS6.out⟩
            have := HL6.out
            rw [mrkSt, if_neg (by rw [HM.out]; exact Bool.false_ne_true)]
            simpa [List.append_assoc] using this
end Go.Proofs.Ytbjbmehkcfpahaa
