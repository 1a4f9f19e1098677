/- One case of the contract of the stack's push. No condition but bounds on what is open. -/
import Derived.Test.YtbjbmehkcfpahaaLayPu
namespace Go.Proofs.Ytbjbmehkcfpahaa
section
open Go.RowKit Lx
attribute [local go_sem] bt_size bt_get bt_list bt_toList bt_drop bt_take
attribute [local go_sem ↓] Go.wp_at_zero Go.wp_at_succ

set_option maxHeartbeats 8000000 in
set_option maxRecDepth 100000 in
theorem push_blk (w : World) (s : St) (rs : List En) (out : List Rt) (c : Int) (h : LayAt w s rs out) (hn : rs.length ≤ 10000000) :
    Calls Try.prog 56 #[.pointer (some ⟨s.g, 0, none⟩), .agg #[.int .i64 1, .int .i64 c, .string (bt [])]] w fun x w' => LPost s w ((.blk c) :: rs) out (.returned (.tuple #[])) x w' := by
  obtain ⟨i0, hi, hz0, hz1, hz2⟩ := info_parts info_en
  obtain ⟨j0, hj, hy0, hy1, hy2⟩ := info_parts info_rc
  have HL := Lib.hid h
  have hg := h.g_lt
  have c0 := h.cells.1
  have hvlen : ∃ ao cap, s.ve = .slice ao rs.length cap := by
    rcases own_forms h.en with ⟨hv, h0⟩ | ⟨q, cap, hv, _⟩
    · exact ⟨none, 0, by rw [h0]; exact hv⟩
    · exact ⟨_, cap, hv⟩
  obtain ⟨ao, vcap, hv⟩ := hvlen
  rw [hv] at c0
  have HV := Lib.hid hv
  clear h hv
  go_enter Try.func56, Try.ntmps56
  go_upto_region 1 with fail
  go_cut [4, 5] (fun s4 s5 wx => ∃ B : Nat, s4 = .pointer (some ⟨B, 0, none⟩) ∧ s5 = .int .i64 (rs.length : Int) ∧ LayAt wx s rs out ∧ PuAt w wx w.heap.size B (.blk c) (rcB rs) (rcF rs) (rcO rs))
  case first =>
    go_region_with ((go_at_call 88; refine (reach_any _ s rs out (by first | exact HL.out.below (below_alloc _ _).drew | exact HL.out.below (blw2 (below_alloc _ _).drew (below_alloc _ _)) | exact HL.out.below (blw2 (below_alloc _ _) (below_alloc _ _)).drew) hn).mono ?_; rintro e w1 ⟨rfl, hb1⟩; unfold rcV; have hg1 : s.g < w1.heap.size := Nat.lt_of_lt_of_le (by simp; omega) hb1.size; have c0' : w1.cell? ⟨s.g, 0, none⟩ = some (.slice ao rs.length vcap) := (hb1.cell (p := ⟨s.g, 0, none⟩) (by simp; omega)).trans (by first | exact cell_al1 w _ hg c0 | exact cell_al2 w _ _ hg c0); (try (have hr := (by first | exact two_cells hb1 | exact two_cells' hb1); obtain ⟨hz1, k0, k1, k2, hf⟩ := hr)); have HB1 := Lib.hid hb1; clear hb1))
    all_goals
      go_wp2_with fail
      go_meet
      first
        | exact ⟨_, rfl, rfl, pu_new1 HL.out HB1.out⟩
        | exact ⟨_, rfl, rfl, pu_new2 HL.out HB1.out⟩
  case rest =>
    obtain ⟨B, rfl, rfl, hl, hp⟩ := hcut
    have hA := hp.al
    have hB := hp.bl
    obtain ⟨a0, a1, a2⟩ := hp.cells
    unfold enS at a0; unfold enC at a1; unfold enK at a2
    have HLc := Lib.hid hl
    have HPc := Lib.hid hp
    clear hl hp
    go_wp2_with fail
    refine (isBlock_any (.blk c) _).mono ?_
    rintro e w2 ⟨rfl, hb2⟩
    unfold En.isBlk
    have HL2 := Lib.hid (HLc.out.below hb2)
    have HP2 := Lib.hid (HPc.out.below hb2)
    obtain ⟨d0, d1, d2⟩ := HP2.out.cells
    unfold enS at d0; unfold enC at d1; unfold enK at d2
    have r0 := HP2.out.r0
    have r1 := HP2.out.r1
    have r2 := HP2.out.r2
    have fz := HP2.out.fz
    have hA2 := HP2.out.al
    have hB2 := HP2.out.bl
    have hAB := HP2.out.ab
    clear hb2 a0 a1 a2
    have hno := (HPc.out.no_own HL.out).2
    go_wp2
    have HP3 := Lib.hid (HP2.out.set (rs.length : Int)).1
    have HL3 := Lib.hid (HL2.out.set_far hno 0 (.int .i64 (rs.length : Int)))
    clear d0 d1 d2 r0 r1 r2 fz hA2 hB2 hAB HP2 HL2 HPc HLc hA hB
    revert HP3 HL3
    generalize w2.setCell ⟨B, 0, none⟩ (.int .i64 (rs.length : Int)) = W3
    intro HP3 HL3
    obtain ⟨a0, a1, a2⟩ := HP3.out.cells
    unfold enS at a0; unfold enC at a1; unfold enK at a2
    have hA3 := HP3.out.al
    go_region_held3 (fun w' => w'.cell? ⟨w.heap.size, 0, none⟩ = some (.int .i64 1) ∧ w'.cell? ⟨w.heap.size, 1, none⟩ = some (.int .i64 c) ∧ w'.cell? ⟨w.heap.size, 2, none⟩ = some (.string (bt [])))
      (first
        | (go_keep; done)
        | (go_split_ands
           exact ⟨(hb4.cell (p := ⟨w.heap.size, 0, none⟩) hA3).trans a0, (hb4.cell (p := ⟨w.heap.size, 1, none⟩) hA3).trans a1, (hb4.cell (p := ⟨w.heap.size, 2, none⟩) hA3).trans a2⟩))
      ((go_at_call 57; refine (braces_v _).mono ?_; rintro e w4 ⟨rfl, hb4⟩))
    have HP4 := Lib.hid (HP3.out.drew.below hb4)
    have HL4 := Lib.hid ((HL3.out.below (Below.refl _ _).drew).below hb4)
    clear hb4 a0 a1 a2 hA3 HP3 HL3
    obtain ⟨a0, a1, a2⟩ := HP4.out.cells
    unfold enS at a0; unfold enC at a1; unfold enK at a2
    have hA4 := HP4.out.al
    have hB4 := HP4.out.bl
    have fz := HP4.out.fz
    have r0 := HP4.out.r0
    have r1 := HP4.out.r1
    have r2 := HP4.out.r2
    have hAB := HP4.out.ab
    go_wp2_with fail
    obtain ⟨W5, rfl⟩ : ∃ W5, W5 = w4 := ⟨_, rfl⟩
    have HP5 := HP4
    have HL5 := HL4
    clear HP4 HL4
    refine (areLoose_any [(.blk c)] W5.heap.size 0 1 (W5.alloc (boxE (.blk c))) (by simp) (by simp) (fun k hk => by
      obtain rfl : k = 0 := by simp at hk; omega
      exact enAt_new W5 (.blk c))).mono ?_
    rintro e w6 ⟨rfl, hb6⟩
    rw [show [(.blk c)].all En.loose = true from rfl]
    have HP6 := Lib.hid ((HP5.out.below (below_alloc _ _)).below hb6)
    have HL6 := Lib.hid ((HL5.out.below (below_alloc _ _)).below hb6)
    clear hb6 a0 a1 a2 hA4 hB4 fz r0 r1 r2 hAB HP5 HL5
    obtain ⟨a0, a1, a2⟩ := HP6.out.cells
    unfold enS at a0; unfold enC at a1; unfold enK at a2
    have hA6 := HP6.out.al
    have hB6 := HP6.out.bl
    have fz := HP6.out.fz
    have r0 := HP6.out.r0
    have r1 := HP6.out.r1
    have r2 := HP6.out.r2
    have hAB := HP6.out.ab
    go_wp2
    obtain ⟨W7, rfl⟩ : ∃ W7, W7 = w6 := ⟨_, rfl⟩
    have HP7 := HP6
    have HL7 := HL6
    clear HP6 HL6
    have HS7 := Lib.hid (Step.of_below s HP7.out.be)
    have HP7' := Lib.hid (show PuAt w W7 w.heap.size B (.blk c) (rcB ((.blk c) :: rs)) (rcF ((.blk c) :: rs)) (rcO ((.blk c) :: rs)) from by
      have := HP7.out
      simpa [rcB, rcF, rcO, En.loose, En.isBlk] using this)
    clear HP7 a0 a1 a2 hA6 hB6 fz r0 r1 r2 hAB
    have HP7 := HP7'
    clear HP7'
    have HG7 := Lib.hid HL7.out.toG
    have HN7 := Lib.hid (HP7.out.no_own HL.out)
    obtain ⟨a0, a1, a2⟩ := HP7.out.cells
    unfold enS at a0; unfold enC at a1; unfold enK at a2
    have hA7 := HP7.out.al
    have hB7 := HP7.out.bl
    have hAB := HP7.out.ab
    have g7 := HG7.out.g_lt
    have c7 := HG7.out.cells.1
    have f7 := HG7.out.frozen 0
    have hgo : some s.g ≠ s.ve.ownBlock := fun e => by have := (HG7.out.en.lt _ e.symm).1; omega
    have HGO := Lib.hid hgo
    clear hgo
    go_region_law ((refine step_append_lies _ (by rfl) _ _ _ (by rfl) (s.g + 1) 88 i0 _ 3 32 under_ens hi hz0 hz1 hz2 rfl (by omega) s.ve rs.length (ensCells rs) (by rfl) (by exact HG7.out.en.drew.alloc _) ⟨W7.heap.size, 0, none⟩ 1 1 (enCells (.blk c)) (by rfl) (by rfl) (by exact en_news W7 (.blk c)) (en_one _) (by omega) (by simp [maxLen]; omega) (by omega) (by simp; omega) _ rfl ?_; intro gg cap w8 hown hgrow hat hlt; have F8 : w8.frozen? ⟨s.g, 0, none⟩ = false := (hgrow.frozen_far ⟨s.g, 0, none⟩ (by simp; omega) HGO.out).trans (frozen_al1 W7 _ g7 f7); have C8 : w8.cell? ⟨s.g, 0, none⟩ = some s.ve := (hgrow.cell_far ⟨s.g, 0, none⟩ (by simp; omega) HGO.out).trans (cell_al1 W7 _ g7 c7); have HOwn := Lib.hid hown; have HGrow := Lib.hid hgrow; have HAt := Lib.hid hat; clear hown hgrow hat))
    all_goals
      go_wp2
      have HD := Lib.hid (ens_done HG7.out HOwn.out HGrow.out HAt.out)
      clear F8 C8 HOwn HGrow HAt
      revert HD
      generalize w8.setCell ⟨s.g, 0, none⟩ _ = W8
      intro HD
      obtain ⟨s8, hg8, hv8, hl8, hs8⟩ := HD.out
      have HL8 := Lib.hid hl8
      have HS8 := Lib.hid hs8
      have q0 := (hs8.cell hB7 HN7.out.2 0).trans HP7.out.r0
      have q1 := (hs8.cell hB7 HN7.out.2 1).trans HP7.out.r1
      have q2 := (hs8.cell hB7 HN7.out.2 2).trans HP7.out.r2
      have g8 : s.g < W8.heap.size := by rw [← hg8]; exact hl8.g_lt
      have hB8 : B < W8.heap.size := Nat.lt_of_lt_of_le hB7 hs8.size
      have c8 : W8.cell? ⟨s.g, 1, none⟩ = some s.vr := by rw [← hg8, ← hv8]; exact hl8.cells.2.1
      have f8 : W8.frozen? ⟨s.g, 1, none⟩ = false := by rw [← hg8]; exact hl8.frozen 1
      have hgo : some s.g ≠ s.vr.ownBlock := fun e => by
        have := (hl8.rc.lt s.g (by rw [hv8]; exact e.symm)).1
        omega
      have HGO8 := Lib.hid hgo
      have HO8 := Lib.hid (show W8.ownsRow (s.g + 1) 105 3 s.vr rs.length (rcsCells rs) by rw [← hv8, ← hg8]; exact hl8.rc)
      have HV8 := Lib.hid hv8
      have HG8 := Lib.hid hg8
      clear hl8 hs8 hgo hv8 hg8 HD c7 f7 a0 a1 a2
      go_region_law ((refine step_append_lies _ (by rfl) _ _ _ (by rfl) (s.g + 1) 105 j0 _ 3 24 under_rcs hj hy0 hy1 hy2 rfl (by omega) s.vr rs.length (rcsCells rs) (by rfl) (by exact HO8.out.drew.alloc _) ⟨W8.heap.size, 0, none⟩ 1 1 (rcCells ((.blk c) :: rs)) (by rfl) (by rfl) (by exact rc_news W8 ((.blk c) :: rs)) (rc_one _) (by omega) (by simp [maxLen]; omega) (by omega) (by simp; omega) _ rfl ?_; intro gg2 cap2 w9 hown hgrow hat hlt2; have F9 : w9.frozen? ⟨s.g, 1, none⟩ = false := (hgrow.frozen_far ⟨s.g, 1, none⟩ (by simp; omega) HGO8.out).trans (frozen_al1 W8 _ g8 f8); have C9 : w9.cell? ⟨s.g, 1, none⟩ = some s.vr := (hgrow.cell_far ⟨s.g, 1, none⟩ (by simp; omega) HGO8.out).trans (cell_al1 W8 _ g8 c8); have HOwn := Lib.hid hown; have HGrow := Lib.hid hgrow; have HAt := Lib.hid hat; clear hown hgrow hat))
      all_goals
        go_wp2
        go_end0
        have hd := rcs_done (e := (.blk c)) HL8.out (by rw [HG8.out]; exact HOwn.out) (by rw [HV8.out]; exact HGrow.out) (by rw [HV8.out]; exact HAt.out)
        rw [HG8.out] at hd
        obtain ⟨s9, hl9, hs9⟩ := hd
        exact ⟨rfl, s9, hl9.toAt, (HS7.out.trans HS8.out).trans hs9⟩
end

section
open Go.RowKit Lx
attribute [local go_sem] bt_size bt_get bt_list bt_toList bt_drop bt_take
attribute [local go_sem ↓] Go.wp_at_zero Go.wp_at_succ

set_option maxHeartbeats 8000000 in
set_option maxRecDepth 100000 in
theorem push_brc (w : World) (s : St) (rs : List En) (out : List Rt) (h : LayAt w s rs out) (hn : rs.length ≤ 10000000) :
    Calls Try.prog 56 #[.pointer (some ⟨s.g, 0, none⟩), .agg #[.int .i64 2, .int .i64 0, .string (bt [])]] w fun x w' => LPost s w (.brc :: rs) out (.returned (.tuple #[])) x w' := by
  obtain ⟨i0, hi, hz0, hz1, hz2⟩ := info_parts info_en
  obtain ⟨j0, hj, hy0, hy1, hy2⟩ := info_parts info_rc
  have HL := Lib.hid h
  have hg := h.g_lt
  have c0 := h.cells.1
  have hvlen : ∃ ao cap, s.ve = .slice ao rs.length cap := by
    rcases own_forms h.en with ⟨hv, h0⟩ | ⟨q, cap, hv, _⟩
    · exact ⟨none, 0, by rw [h0]; exact hv⟩
    · exact ⟨_, cap, hv⟩
  obtain ⟨ao, vcap, hv⟩ := hvlen
  rw [hv] at c0
  have HV := Lib.hid hv
  clear h hv
  go_enter Try.func56, Try.ntmps56
  go_upto_region 1 with fail
  go_cut [4, 5] (fun s4 s5 wx => ∃ B : Nat, s4 = .pointer (some ⟨B, 0, none⟩) ∧ s5 = .int .i64 (rs.length : Int) ∧ LayAt wx s rs out ∧ PuAt w wx w.heap.size B .brc (rcB rs) (rcF rs) (rcO rs))
  case first =>
    go_region_with ((go_at_call 88; refine (reach_any _ s rs out (by first | exact HL.out.below (below_alloc _ _).drew | exact HL.out.below (blw2 (below_alloc _ _).drew (below_alloc _ _)) | exact HL.out.below (blw2 (below_alloc _ _) (below_alloc _ _)).drew) hn).mono ?_; rintro e w1 ⟨rfl, hb1⟩; unfold rcV; have hg1 : s.g < w1.heap.size := Nat.lt_of_lt_of_le (by simp; omega) hb1.size; have c0' : w1.cell? ⟨s.g, 0, none⟩ = some (.slice ao rs.length vcap) := (hb1.cell (p := ⟨s.g, 0, none⟩) (by simp; omega)).trans (by first | exact cell_al1 w _ hg c0 | exact cell_al2 w _ _ hg c0); (try (have hr := (by first | exact two_cells hb1 | exact two_cells' hb1); obtain ⟨hz1, k0, k1, k2, hf⟩ := hr)); have HB1 := Lib.hid hb1; clear hb1))
    all_goals
      go_wp2_with fail
      go_meet
      first
        | exact ⟨_, rfl, rfl, pu_new1 HL.out HB1.out⟩
        | exact ⟨_, rfl, rfl, pu_new2 HL.out HB1.out⟩
  case rest =>
    obtain ⟨B, rfl, rfl, hl, hp⟩ := hcut
    have hA := hp.al
    have hB := hp.bl
    obtain ⟨a0, a1, a2⟩ := hp.cells
    unfold enS at a0; unfold enC at a1; unfold enK at a2
    have HLc := Lib.hid hl
    have HPc := Lib.hid hp
    clear hl hp
    go_wp2_with fail
    refine (isBlock_any .brc _).mono ?_
    rintro e w2 ⟨rfl, hb2⟩
    unfold En.isBlk
    have HL2 := Lib.hid (HLc.out.below hb2)
    have HP2 := Lib.hid (HPc.out.below hb2)
    obtain ⟨d0, d1, d2⟩ := HP2.out.cells
    unfold enS at d0; unfold enC at d1; unfold enK at d2
    have r0 := HP2.out.r0
    have r1 := HP2.out.r1
    have r2 := HP2.out.r2
    have fz := HP2.out.fz
    have hA2 := HP2.out.al
    have hB2 := HP2.out.bl
    have hAB := HP2.out.ab
    clear hb2 a0 a1 a2
    have hno := (HPc.out.no_own HL.out).2
    go_wp2
    have HP3 := Lib.hid (HP2.out.set (rs.length : Int)).2.2
    have HL3 := Lib.hid (HL2.out.set_far hno 2 (.int .i64 (rs.length : Int)))
    clear d0 d1 d2 r0 r1 r2 fz hA2 hB2 hAB HP2 HL2 HPc HLc hA hB
    revert HP3 HL3
    generalize w2.setCell ⟨B, 2, none⟩ (.int .i64 (rs.length : Int)) = W3
    intro HP3 HL3
    obtain ⟨a0, a1, a2⟩ := HP3.out.cells
    unfold enS at a0; unfold enC at a1; unfold enK at a2
    have hA3 := HP3.out.al
    go_region_held3 (fun w' => w'.cell? ⟨w.heap.size, 0, none⟩ = some (.int .i64 2) ∧ w'.cell? ⟨w.heap.size, 1, none⟩ = some (.int .i64 0) ∧ w'.cell? ⟨w.heap.size, 2, none⟩ = some (.string (bt [])))
      (first
        | (go_keep; done)
        | (go_split_ands
           exact ⟨(hb4.cell (p := ⟨w.heap.size, 0, none⟩) hA3).trans a0, (hb4.cell (p := ⟨w.heap.size, 1, none⟩) hA3).trans a1, (hb4.cell (p := ⟨w.heap.size, 2, none⟩) hA3).trans a2⟩))
      ((go_at_call 57; refine (braces_v _).mono ?_; rintro e w4 ⟨rfl, hb4⟩))
    have HP4 := Lib.hid (HP3.out.drew.below hb4)
    have HL4 := Lib.hid ((HL3.out.below (Below.refl _ _).drew).below hb4)
    clear hb4 a0 a1 a2 hA3 HP3 HL3
    obtain ⟨a0, a1, a2⟩ := HP4.out.cells
    unfold enS at a0; unfold enC at a1; unfold enK at a2
    have hA4 := HP4.out.al
    have hB4 := HP4.out.bl
    have fz := HP4.out.fz
    have r0 := HP4.out.r0
    have r1 := HP4.out.r1
    have r2 := HP4.out.r2
    have hAB := HP4.out.ab
    go_wp2_with fail
    have HP5 := Lib.hid (HP4.out.set (-1)).1
    have HL5 := Lib.hid (HL4.out.set_far hno 0 (.int .i64 (-1)))
    clear HP4 HL4 a0 a1 a2 fz r0 r1 r2 hA4 hB4 hAB
    rw [show w4.heap.size = (w4.setCell ⟨B, 0, none⟩ (.int .i64 (-1))).heap.size from (size_set _ _ _ _).symm]
    revert HP5 HL5
    generalize w4.setCell ⟨B, 0, none⟩ (.int .i64 (-1)) = W5
    intro HP5 HL5
    obtain ⟨a0, a1, a2⟩ := HP5.out.cells
    unfold enS at a0; unfold enC at a1; unfold enK at a2
    have hA4 := HP5.out.al
    have hB4 := HP5.out.bl
    have fz := HP5.out.fz
    have r0 := HP5.out.r0
    have r1 := HP5.out.r1
    have r2 := HP5.out.r2
    have hAB := HP5.out.ab
    refine (areLoose_any [.brc] W5.heap.size 0 1 (W5.alloc (boxE .brc)) (by simp) (by simp) (fun k hk => by
      obtain rfl : k = 0 := by simp at hk; omega
      exact enAt_new W5 .brc)).mono ?_
    rintro e w6 ⟨rfl, hb6⟩
    rw [show [.brc].all En.loose = false from rfl]
    have HP6 := Lib.hid ((HP5.out.below (below_alloc _ _)).below hb6)
    have HL6 := Lib.hid ((HL5.out.below (below_alloc _ _)).below hb6)
    clear hb6 a0 a1 a2 hA4 hB4 fz r0 r1 r2 hAB HP5 HL5
    obtain ⟨a0, a1, a2⟩ := HP6.out.cells
    unfold enS at a0; unfold enC at a1; unfold enK at a2
    have hA6 := HP6.out.al
    have hB6 := HP6.out.bl
    have fz := HP6.out.fz
    have r0 := HP6.out.r0
    have r1 := HP6.out.r1
    have r2 := HP6.out.r2
    have hAB := HP6.out.ab
    go_wp2
    have HP7 := Lib.hid (HP6.out.set (rs.length : Int)).2.1
    have HL7 := Lib.hid (HL6.out.set_far hno 1 (.int .i64 (rs.length : Int)))
    clear HP6 HL6
    revert HP7 HL7
    generalize w6.setCell ⟨B, 1, none⟩ (.int .i64 (rs.length : Int)) = W7
    intro HP7 HL7
    have HS7 := Lib.hid (Step.of_below s HP7.out.be)
    have HP7' := Lib.hid (show PuAt w W7 w.heap.size B .brc (rcB (.brc :: rs)) (rcF (.brc :: rs)) (rcO (.brc :: rs)) from by
      have := HP7.out
      simpa [rcB, rcF, rcO, En.loose, En.isBlk] using this)
    clear HP7 a0 a1 a2 hA6 hB6 fz r0 r1 r2 hAB
    have HP7 := HP7'
    clear HP7'
    have HG7 := Lib.hid HL7.out.toG
    have HN7 := Lib.hid (HP7.out.no_own HL.out)
    obtain ⟨a0, a1, a2⟩ := HP7.out.cells
    unfold enS at a0; unfold enC at a1; unfold enK at a2
    have hA7 := HP7.out.al
    have hB7 := HP7.out.bl
    have hAB := HP7.out.ab
    have g7 := HG7.out.g_lt
    have c7 := HG7.out.cells.1
    have f7 := HG7.out.frozen 0
    have hgo : some s.g ≠ s.ve.ownBlock := fun e => by have := (HG7.out.en.lt _ e.symm).1; omega
    have HGO := Lib.hid hgo
    clear hgo
    go_region_law ((refine step_append_lies _ (by rfl) _ _ _ (by rfl) (s.g + 1) 88 i0 _ 3 32 under_ens hi hz0 hz1 hz2 rfl (by omega) s.ve rs.length (ensCells rs) (by rfl) (by exact HG7.out.en.drew.alloc _) ⟨W7.heap.size, 0, none⟩ 1 1 (enCells .brc) (by rfl) (by rfl) (by exact en_news W7 .brc) (en_one _) (by omega) (by simp [maxLen]; omega) (by omega) (by simp; omega) _ rfl ?_; intro gg cap w8 hown hgrow hat hlt; have F8 : w8.frozen? ⟨s.g, 0, none⟩ = false := (hgrow.frozen_far ⟨s.g, 0, none⟩ (by simp; omega) HGO.out).trans (frozen_al1 W7 _ g7 f7); have C8 : w8.cell? ⟨s.g, 0, none⟩ = some s.ve := (hgrow.cell_far ⟨s.g, 0, none⟩ (by simp; omega) HGO.out).trans (cell_al1 W7 _ g7 c7); have HOwn := Lib.hid hown; have HGrow := Lib.hid hgrow; have HAt := Lib.hid hat; clear hown hgrow hat))
    all_goals
      go_wp2
      have HD := Lib.hid (ens_done HG7.out HOwn.out HGrow.out HAt.out)
      clear F8 C8 HOwn HGrow HAt
      revert HD
      generalize w8.setCell ⟨s.g, 0, none⟩ _ = W8
      intro HD
      obtain ⟨s8, hg8, hv8, hl8, hs8⟩ := HD.out
      have HL8 := Lib.hid hl8
      have HS8 := Lib.hid hs8
      have q0 := (hs8.cell hB7 HN7.out.2 0).trans HP7.out.r0
      have q1 := (hs8.cell hB7 HN7.out.2 1).trans HP7.out.r1
      have q2 := (hs8.cell hB7 HN7.out.2 2).trans HP7.out.r2
      have g8 : s.g < W8.heap.size := by rw [← hg8]; exact hl8.g_lt
      have hB8 : B < W8.heap.size := Nat.lt_of_lt_of_le hB7 hs8.size
      have c8 : W8.cell? ⟨s.g, 1, none⟩ = some s.vr := by rw [← hg8, ← hv8]; exact hl8.cells.2.1
      have f8 : W8.frozen? ⟨s.g, 1, none⟩ = false := by rw [← hg8]; exact hl8.frozen 1
      have hgo : some s.g ≠ s.vr.ownBlock := fun e => by
        have := (hl8.rc.lt s.g (by rw [hv8]; exact e.symm)).1
        omega
      have HGO8 := Lib.hid hgo
      have HO8 := Lib.hid (show W8.ownsRow (s.g + 1) 105 3 s.vr rs.length (rcsCells rs) by rw [← hv8, ← hg8]; exact hl8.rc)
      have HV8 := Lib.hid hv8
      have HG8 := Lib.hid hg8
      clear hl8 hs8 hgo hv8 hg8 HD c7 f7 a0 a1 a2
      go_region_law ((refine step_append_lies _ (by rfl) _ _ _ (by rfl) (s.g + 1) 105 j0 _ 3 24 under_rcs hj hy0 hy1 hy2 rfl (by omega) s.vr rs.length (rcsCells rs) (by rfl) (by exact HO8.out.drew.alloc _) ⟨W8.heap.size, 0, none⟩ 1 1 (rcCells (.brc :: rs)) (by rfl) (by rfl) (by exact rc_news W8 (.brc :: rs)) (rc_one _) (by omega) (by simp [maxLen]; omega) (by omega) (by simp; omega) _ rfl ?_; intro gg2 cap2 w9 hown hgrow hat hlt2; have F9 : w9.frozen? ⟨s.g, 1, none⟩ = false := (hgrow.frozen_far ⟨s.g, 1, none⟩ (by simp; omega) HGO8.out).trans (frozen_al1 W8 _ g8 f8); have C9 : w9.cell? ⟨s.g, 1, none⟩ = some s.vr := (hgrow.cell_far ⟨s.g, 1, none⟩ (by simp; omega) HGO8.out).trans (cell_al1 W8 _ g8 c8); have HOwn := Lib.hid hown; have HGrow := Lib.hid hgrow; have HAt := Lib.hid hat; clear hown hgrow hat))
      all_goals
        go_wp2
        go_end0
        have hd := rcs_done (e := .brc) HL8.out (by rw [HG8.out]; exact HOwn.out) (by rw [HV8.out]; exact HGrow.out) (by rw [HV8.out]; exact HAt.out)
        rw [HG8.out] at hd
        obtain ⟨s9, hl9, hs9⟩ := hd
        exact ⟨rfl, s9, hl9.toAt, (HS7.out.trans HS8.out).trans hs9⟩
end

section
open Go.RowKit Lx
attribute [local go_sem] bt_size bt_get bt_list bt_toList bt_drop bt_take
attribute [local go_sem ↓] Go.wp_at_zero Go.wp_at_succ

set_option maxHeartbeats 8000000 in
set_option maxRecDepth 100000 in
theorem push_lt (w : World) (s : St) (rs : List En) (out : List Rt) (h : LayAt w s rs out) (hn : rs.length ≤ 10000000) :
    Calls Try.prog 56 #[.pointer (some ⟨s.g, 0, none⟩), .agg #[.int .i64 3, .int .i64 0, .string (bt [108, 101, 116])]] w fun x w' => LPost s w ((.mk .lt) :: rs) out (.returned (.tuple #[])) x w' := by
  obtain ⟨i0, hi, hz0, hz1, hz2⟩ := info_parts info_en
  obtain ⟨j0, hj, hy0, hy1, hy2⟩ := info_parts info_rc
  have HL := Lib.hid h
  have hg := h.g_lt
  have c0 := h.cells.1
  have hvlen : ∃ ao cap, s.ve = .slice ao rs.length cap := by
    rcases own_forms h.en with ⟨hv, h0⟩ | ⟨q, cap, hv, _⟩
    · exact ⟨none, 0, by rw [h0]; exact hv⟩
    · exact ⟨_, cap, hv⟩
  obtain ⟨ao, vcap, hv⟩ := hvlen
  rw [hv] at c0
  have HV := Lib.hid hv
  clear h hv
  go_enter Try.func56, Try.ntmps56
  go_upto_region 1 with fail
  go_cut [4, 5] (fun s4 s5 wx => ∃ B : Nat, s4 = .pointer (some ⟨B, 0, none⟩) ∧ s5 = .int .i64 (rs.length : Int) ∧ LayAt wx s rs out ∧ PuAt w wx w.heap.size B (.mk .lt) (rcB rs) (rcF rs) (rcO rs))
  case first =>
    go_region_with ((go_at_call 88; refine (reach_any _ s rs out (by first | exact HL.out.below (below_alloc _ _).drew | exact HL.out.below (blw2 (below_alloc _ _).drew (below_alloc _ _)) | exact HL.out.below (blw2 (below_alloc _ _) (below_alloc _ _)).drew) hn).mono ?_; rintro e w1 ⟨rfl, hb1⟩; unfold rcV; have hg1 : s.g < w1.heap.size := Nat.lt_of_lt_of_le (by simp; omega) hb1.size; have c0' : w1.cell? ⟨s.g, 0, none⟩ = some (.slice ao rs.length vcap) := (hb1.cell (p := ⟨s.g, 0, none⟩) (by simp; omega)).trans (by first | exact cell_al1 w _ hg c0 | exact cell_al2 w _ _ hg c0); (try (have hr := (by first | exact two_cells hb1 | exact two_cells' hb1); obtain ⟨hz1, k0, k1, k2, hf⟩ := hr)); have HB1 := Lib.hid hb1; clear hb1))
    all_goals
      go_wp2_with fail
      go_meet
      first
        | exact ⟨_, rfl, rfl, pu_new1 HL.out HB1.out⟩
        | exact ⟨_, rfl, rfl, pu_new2 HL.out HB1.out⟩
  case rest =>
    obtain ⟨B, rfl, rfl, hl, hp⟩ := hcut
    have hA := hp.al
    have hB := hp.bl
    obtain ⟨a0, a1, a2⟩ := hp.cells
    replace a2 : _ = some (Value.string (bt [108, 101, 116])) := a2; unfold enS at a0; unfold enC at a1
    have HLc := Lib.hid hl
    have HPc := Lib.hid hp
    clear hl hp
    go_wp2_with fail
    refine (isBlock_any (.mk .lt) _).mono ?_
    rintro e w2 ⟨rfl, hb2⟩
    unfold En.isBlk
    have HL2 := Lib.hid (HLc.out.below hb2)
    have HP2 := Lib.hid (HPc.out.below hb2)
    obtain ⟨d0, d1, d2⟩ := HP2.out.cells
    replace d2 : _ = some (Value.string (bt [108, 101, 116])) := d2; unfold enS at d0; unfold enC at d1
    have r0 := HP2.out.r0
    have r1 := HP2.out.r1
    have r2 := HP2.out.r2
    have fz := HP2.out.fz
    have hA2 := HP2.out.al
    have hB2 := HP2.out.bl
    have hAB := HP2.out.ab
    clear hb2 a0 a1 a2
    have hno := (HPc.out.no_own HL.out).2
    go_wp2
    have HP3 := Lib.hid (HP2.out.set (rs.length : Int)).2.2
    have HL3 := Lib.hid (HL2.out.set_far hno 2 (.int .i64 (rs.length : Int)))
    clear d0 d1 d2 r0 r1 r2 fz hA2 hB2 hAB HP2 HL2 HPc HLc hA hB
    revert HP3 HL3
    generalize w2.setCell ⟨B, 2, none⟩ (.int .i64 (rs.length : Int)) = W3
    intro HP3 HL3
    obtain ⟨a0, a1, a2⟩ := HP3.out.cells
    replace a2 : _ = some (Value.string (bt [108, 101, 116])) := a2; unfold enS at a0; unfold enC at a1
    have hA3 := HP3.out.al
    go_region_held3 (fun w' => w'.cell? ⟨w.heap.size, 0, none⟩ = some (.int .i64 3) ∧ w'.cell? ⟨w.heap.size, 1, none⟩ = some (.int .i64 0) ∧ w'.cell? ⟨w.heap.size, 2, none⟩ = some (.string (bt [108, 101, 116])))
      (first
        | (go_keep; done)
        | (go_split_ands
           exact ⟨(hb4.cell (p := ⟨w.heap.size, 0, none⟩) hA3).trans a0, (hb4.cell (p := ⟨w.heap.size, 1, none⟩) hA3).trans a1, (hb4.cell (p := ⟨w.heap.size, 2, none⟩) hA3).trans a2⟩))
      ((go_at_call 57; refine (braces_v _).mono ?_; rintro e w4 ⟨rfl, hb4⟩))
    have HP4 := Lib.hid (HP3.out.drew.below hb4)
    have HL4 := Lib.hid ((HL3.out.below (Below.refl _ _).drew).below hb4)
    clear hb4 a0 a1 a2 hA3 HP3 HL3
    obtain ⟨a0, a1, a2⟩ := HP4.out.cells
    replace a2 : _ = some (Value.string (bt [108, 101, 116])) := a2; unfold enS at a0; unfold enC at a1
    have hA4 := HP4.out.al
    have hB4 := HP4.out.bl
    have fz := HP4.out.fz
    have r0 := HP4.out.r0
    have r1 := HP4.out.r1
    have r2 := HP4.out.r2
    have hAB := HP4.out.ab
    go_wp2_with fail
    obtain ⟨W5, rfl⟩ : ∃ W5, W5 = w4 := ⟨_, rfl⟩
    have HP5 := HP4
    have HL5 := HL4
    clear HP4 HL4
    refine (areLoose_any [(.mk .lt)] W5.heap.size 0 1 (W5.alloc (boxE (.mk .lt))) (by simp) (by simp) (fun k hk => by
      obtain rfl : k = 0 := by simp at hk; omega
      exact enAt_new W5 (.mk .lt))).mono ?_
    rintro e w6 ⟨rfl, hb6⟩
    rw [show [(.mk .lt)].all En.loose = true from rfl]
    have HP6 := Lib.hid ((HP5.out.below (below_alloc _ _)).below hb6)
    have HL6 := Lib.hid ((HL5.out.below (below_alloc _ _)).below hb6)
    clear hb6 a0 a1 a2 hA4 hB4 fz r0 r1 r2 hAB HP5 HL5
    obtain ⟨a0, a1, a2⟩ := HP6.out.cells
    replace a2 : _ = some (Value.string (bt [108, 101, 116])) := a2; unfold enS at a0; unfold enC at a1
    have hA6 := HP6.out.al
    have hB6 := HP6.out.bl
    have fz := HP6.out.fz
    have r0 := HP6.out.r0
    have r1 := HP6.out.r1
    have r2 := HP6.out.r2
    have hAB := HP6.out.ab
    go_wp2
    obtain ⟨W7, rfl⟩ : ∃ W7, W7 = w6 := ⟨_, rfl⟩
    have HP7 := HP6
    have HL7 := HL6
    clear HP6 HL6
    have HS7 := Lib.hid (Step.of_below s HP7.out.be)
    have HP7' := Lib.hid (show PuAt w W7 w.heap.size B (.mk .lt) (rcB ((.mk .lt) :: rs)) (rcF ((.mk .lt) :: rs)) (rcO ((.mk .lt) :: rs)) from by
      have := HP7.out
      simpa [rcB, rcF, rcO, En.loose, En.isBlk] using this)
    clear HP7 a0 a1 a2 hA6 hB6 fz r0 r1 r2 hAB
    have HP7 := HP7'
    clear HP7'
    have HG7 := Lib.hid HL7.out.toG
    have HN7 := Lib.hid (HP7.out.no_own HL.out)
    obtain ⟨a0, a1, a2⟩ := HP7.out.cells
    replace a2 : _ = some (Value.string (bt [108, 101, 116])) := a2; unfold enS at a0; unfold enC at a1
    have hA7 := HP7.out.al
    have hB7 := HP7.out.bl
    have hAB := HP7.out.ab
    have g7 := HG7.out.g_lt
    have c7 := HG7.out.cells.1
    have f7 := HG7.out.frozen 0
    have hgo : some s.g ≠ s.ve.ownBlock := fun e => by have := (HG7.out.en.lt _ e.symm).1; omega
    have HGO := Lib.hid hgo
    clear hgo
    go_region_law ((refine step_append_lies _ (by rfl) _ _ _ (by rfl) (s.g + 1) 88 i0 _ 3 32 under_ens hi hz0 hz1 hz2 rfl (by omega) s.ve rs.length (ensCells rs) (by rfl) (by exact HG7.out.en.drew.alloc _) ⟨W7.heap.size, 0, none⟩ 1 1 (enCells (.mk .lt)) (by rfl) (by rfl) (by exact en_news W7 (.mk .lt)) (en_one _) (by omega) (by simp [maxLen]; omega) (by omega) (by simp; omega) _ rfl ?_; intro gg cap w8 hown hgrow hat hlt; have F8 : w8.frozen? ⟨s.g, 0, none⟩ = false := (hgrow.frozen_far ⟨s.g, 0, none⟩ (by simp; omega) HGO.out).trans (frozen_al1 W7 _ g7 f7); have C8 : w8.cell? ⟨s.g, 0, none⟩ = some s.ve := (hgrow.cell_far ⟨s.g, 0, none⟩ (by simp; omega) HGO.out).trans (cell_al1 W7 _ g7 c7); have HOwn := Lib.hid hown; have HGrow := Lib.hid hgrow; have HAt := Lib.hid hat; clear hown hgrow hat))
    all_goals
      go_wp2
      have HD := Lib.hid (ens_done HG7.out HOwn.out HGrow.out HAt.out)
      clear F8 C8 HOwn HGrow HAt
      revert HD
      generalize w8.setCell ⟨s.g, 0, none⟩ _ = W8
      intro HD
      obtain ⟨s8, hg8, hv8, hl8, hs8⟩ := HD.out
      have HL8 := Lib.hid hl8
      have HS8 := Lib.hid hs8
      have q0 := (hs8.cell hB7 HN7.out.2 0).trans HP7.out.r0
      have q1 := (hs8.cell hB7 HN7.out.2 1).trans HP7.out.r1
      have q2 := (hs8.cell hB7 HN7.out.2 2).trans HP7.out.r2
      have g8 : s.g < W8.heap.size := by rw [← hg8]; exact hl8.g_lt
      have hB8 : B < W8.heap.size := Nat.lt_of_lt_of_le hB7 hs8.size
      have c8 : W8.cell? ⟨s.g, 1, none⟩ = some s.vr := by rw [← hg8, ← hv8]; exact hl8.cells.2.1
      have f8 : W8.frozen? ⟨s.g, 1, none⟩ = false := by rw [← hg8]; exact hl8.frozen 1
      have hgo : some s.g ≠ s.vr.ownBlock := fun e => by
        have := (hl8.rc.lt s.g (by rw [hv8]; exact e.symm)).1
        omega
      have HGO8 := Lib.hid hgo
      have HO8 := Lib.hid (show W8.ownsRow (s.g + 1) 105 3 s.vr rs.length (rcsCells rs) by rw [← hv8, ← hg8]; exact hl8.rc)
      have HV8 := Lib.hid hv8
      have HG8 := Lib.hid hg8
      clear hl8 hs8 hgo hv8 hg8 HD c7 f7 a0 a1 a2
      go_region_law ((refine step_append_lies _ (by rfl) _ _ _ (by rfl) (s.g + 1) 105 j0 _ 3 24 under_rcs hj hy0 hy1 hy2 rfl (by omega) s.vr rs.length (rcsCells rs) (by rfl) (by exact HO8.out.drew.alloc _) ⟨W8.heap.size, 0, none⟩ 1 1 (rcCells ((.mk .lt) :: rs)) (by rfl) (by rfl) (by exact rc_news W8 ((.mk .lt) :: rs)) (rc_one _) (by omega) (by simp [maxLen]; omega) (by omega) (by simp; omega) _ rfl ?_; intro gg2 cap2 w9 hown hgrow hat hlt2; have F9 : w9.frozen? ⟨s.g, 1, none⟩ = false := (hgrow.frozen_far ⟨s.g, 1, none⟩ (by simp; omega) HGO8.out).trans (frozen_al1 W8 _ g8 f8); have C9 : w9.cell? ⟨s.g, 1, none⟩ = some s.vr := (hgrow.cell_far ⟨s.g, 1, none⟩ (by simp; omega) HGO8.out).trans (cell_al1 W8 _ g8 c8); have HOwn := Lib.hid hown; have HGrow := Lib.hid hgrow; have HAt := Lib.hid hat; clear hown hgrow hat))
      all_goals
        go_wp2
        go_end0
        have hd := rcs_done (e := (.mk .lt)) HL8.out (by rw [HG8.out]; exact HOwn.out) (by rw [HV8.out]; exact HGrow.out) (by rw [HV8.out]; exact HAt.out)
        rw [HG8.out] at hd
        obtain ⟨s9, hl9, hs9⟩ := hd
        exact ⟨rfl, s9, hl9.toAt, (HS7.out.trans HS8.out).trans hs9⟩
end

section
open Go.RowKit Lx
attribute [local go_sem] bt_size bt_get bt_list bt_toList bt_drop bt_take
attribute [local go_sem ↓] Go.wp_at_zero Go.wp_at_succ

set_option maxHeartbeats 8000000 in
set_option maxRecDepth 100000 in
theorem push_mk (w : World) (s : St) (rs : List En) (out : List Rt) (m : Mk) (hm : m ≠ .lt) (h : LayAt w s rs out) (hn : rs.length ≤ 10000000) :
    Calls Try.prog 56 #[.pointer (some ⟨s.g, 0, none⟩), .agg #[.int .i64 3, .int .i64 0, .string (bt m.txt)]] w fun x w' => LPost s w ((.mk m) :: rs) out (.returned (.tuple #[])) x w' := by
  obtain ⟨i0, hi, hz0, hz1, hz2⟩ := info_parts info_en
  obtain ⟨j0, hj, hy0, hy1, hy2⟩ := info_parts info_rc
  have HL := Lib.hid h
  have hg := h.g_lt
  have c0 := h.cells.1
  have hvlen : ∃ ao cap, s.ve = .slice ao rs.length cap := by
    rcases own_forms h.en with ⟨hv, h0⟩ | ⟨q, cap, hv, _⟩
    · exact ⟨none, 0, by rw [h0]; exact hv⟩
    · exact ⟨_, cap, hv⟩
  obtain ⟨ao, vcap, hv⟩ := hvlen
  rw [hv] at c0
  have HV := Lib.hid hv
  clear h hv
  go_enter Try.func56, Try.ntmps56
  go_upto_region 1 with fail
  go_cut [4, 5] (fun s4 s5 wx => ∃ B : Nat, s4 = .pointer (some ⟨B, 0, none⟩) ∧ s5 = .int .i64 (rs.length : Int) ∧ LayAt wx s rs out ∧ PuAt w wx w.heap.size B (.mk m) (rcB rs) (rcF rs) (rcO rs))
  case first =>
    go_region_with ((go_at_call 88; refine (reach_any _ s rs out (by first | exact HL.out.below (below_alloc _ _).drew | exact HL.out.below (blw2 (below_alloc _ _).drew (below_alloc _ _)) | exact HL.out.below (blw2 (below_alloc _ _) (below_alloc _ _)).drew) hn).mono ?_; rintro e w1 ⟨rfl, hb1⟩; unfold rcV; have hg1 : s.g < w1.heap.size := Nat.lt_of_lt_of_le (by simp; omega) hb1.size; have c0' : w1.cell? ⟨s.g, 0, none⟩ = some (.slice ao rs.length vcap) := (hb1.cell (p := ⟨s.g, 0, none⟩) (by simp; omega)).trans (by first | exact cell_al1 w _ hg c0 | exact cell_al2 w _ _ hg c0); (try (have hr := (by first | exact two_cells hb1 | exact two_cells' hb1); obtain ⟨hz1, k0, k1, k2, hf⟩ := hr)); have HB1 := Lib.hid hb1; clear hb1))
    all_goals
      go_wp2_with fail
      go_meet
      first
        | exact ⟨_, rfl, rfl, pu_new1 HL.out HB1.out⟩
        | exact ⟨_, rfl, rfl, pu_new2 HL.out HB1.out⟩
  case rest =>
    obtain ⟨B, rfl, rfl, hl, hp⟩ := hcut
    have hA := hp.al
    have hB := hp.bl
    obtain ⟨a0, a1, a2⟩ := hp.cells
    replace a2 : _ = some (Value.string (bt m.txt)) := a2; unfold enS at a0; unfold enC at a1
    have HLc := Lib.hid hl
    have HPc := Lib.hid hp
    clear hl hp
    go_wp2_with fail
    refine (isBlock_any (.mk m) _).mono ?_
    rintro e w2 ⟨rfl, hb2⟩
    unfold En.isBlk
    have HL2 := Lib.hid (HLc.out.below hb2)
    have HP2 := Lib.hid (HPc.out.below hb2)
    obtain ⟨d0, d1, d2⟩ := HP2.out.cells
    replace d2 : _ = some (Value.string (bt m.txt)) := d2; unfold enS at d0; unfold enC at d1
    have r0 := HP2.out.r0
    have r1 := HP2.out.r1
    have r2 := HP2.out.r2
    have fz := HP2.out.fz
    have hA2 := HP2.out.al
    have hB2 := HP2.out.bl
    have hAB := HP2.out.ab
    clear hb2 a0 a1 a2
    have hno := (HPc.out.no_own HL.out).2
    go_wp2
    have HP3 := Lib.hid (HP2.out.set (rs.length : Int)).2.2
    have HL3 := Lib.hid (HL2.out.set_far hno 2 (.int .i64 (rs.length : Int)))
    clear d0 d1 d2 r0 r1 r2 fz hA2 hB2 hAB HP2 HL2 HPc HLc hA hB
    revert HP3 HL3
    generalize w2.setCell ⟨B, 2, none⟩ (.int .i64 (rs.length : Int)) = W3
    intro HP3 HL3
    obtain ⟨a0, a1, a2⟩ := HP3.out.cells
    replace a2 : _ = some (Value.string (bt m.txt)) := a2; unfold enS at a0; unfold enC at a1
    have hA3 := HP3.out.al
    go_region_held3 (fun w' => w'.cell? ⟨w.heap.size, 0, none⟩ = some (.int .i64 3) ∧ w'.cell? ⟨w.heap.size, 1, none⟩ = some (.int .i64 0) ∧ w'.cell? ⟨w.heap.size, 2, none⟩ = some (.string (bt m.txt)))
      (first
        | (go_keep; done)
        | (go_split_ands
           exact ⟨(hb4.cell (p := ⟨w.heap.size, 0, none⟩) hA3).trans a0, (hb4.cell (p := ⟨w.heap.size, 1, none⟩) hA3).trans a1, (hb4.cell (p := ⟨w.heap.size, 2, none⟩) hA3).trans a2⟩))
      ((go_at_call 57; refine (braces_v _).mono ?_; rintro e w4 ⟨rfl, hb4⟩))
    have HP4 := Lib.hid (HP3.out.drew.below hb4)
    have HL4 := Lib.hid ((HL3.out.below (Below.refl _ _).drew).below hb4)
    clear hb4 a0 a1 a2 hA3 HP3 HL3
    obtain ⟨a0, a1, a2⟩ := HP4.out.cells
    replace a2 : _ = some (Value.string (bt m.txt)) := a2; unfold enS at a0; unfold enC at a1
    have hA4 := HP4.out.al
    have hB4 := HP4.out.bl
    have fz := HP4.out.fz
    have r0 := HP4.out.r0
    have r1 := HP4.out.r1
    have r2 := HP4.out.r2
    have hAB := HP4.out.ab
    go_wp2_with fail
    obtain ⟨W5, rfl⟩ : ∃ W5, W5 = w4 := ⟨_, rfl⟩
    have HP5 := HP4
    have HL5 := HL4
    clear HP4 HL4
    refine (areLoose_any [(.mk m)] W5.heap.size 0 1 (W5.alloc (boxE (.mk m))) (by simp) (by simp) (fun k hk => by
      obtain rfl : k = 0 := by simp at hk; omega
      exact enAt_new W5 (.mk m))).mono ?_
    rintro e w6 ⟨rfl, hb6⟩
    rw [show [(.mk m)].all En.loose = false from (by cases m <;> first | rfl | exact absurd rfl hm)]
    have HP6 := Lib.hid ((HP5.out.below (below_alloc _ _)).below hb6)
    have HL6 := Lib.hid ((HL5.out.below (below_alloc _ _)).below hb6)
    clear hb6 a0 a1 a2 hA4 hB4 fz r0 r1 r2 hAB HP5 HL5
    obtain ⟨a0, a1, a2⟩ := HP6.out.cells
    replace a2 : _ = some (Value.string (bt m.txt)) := a2; unfold enS at a0; unfold enC at a1
    have hA6 := HP6.out.al
    have hB6 := HP6.out.bl
    have fz := HP6.out.fz
    have r0 := HP6.out.r0
    have r1 := HP6.out.r1
    have r2 := HP6.out.r2
    have hAB := HP6.out.ab
    go_wp2
    have HP7 := Lib.hid (HP6.out.set (rs.length : Int)).2.1
    have HL7 := Lib.hid (HL6.out.set_far hno 1 (.int .i64 (rs.length : Int)))
    clear HP6 HL6
    revert HP7 HL7
    generalize w6.setCell ⟨B, 1, none⟩ (.int .i64 (rs.length : Int)) = W7
    intro HP7 HL7
    have HS7 := Lib.hid (Step.of_below s HP7.out.be)
    have HP7' := Lib.hid (show PuAt w W7 w.heap.size B (.mk m) (rcB ((.mk m) :: rs)) (rcF ((.mk m) :: rs)) (rcO ((.mk m) :: rs)) from by
      have := HP7.out
      rw [show rcF (.mk m :: rs) = rs.length from by cases m <;> first | rfl | exact absurd rfl hm]; simpa [rcB, rcO, En.loose, En.isBlk] using this)
    clear HP7 a0 a1 a2 hA6 hB6 fz r0 r1 r2 hAB
    have HP7 := HP7'
    clear HP7'
    have HG7 := Lib.hid HL7.out.toG
    have HN7 := Lib.hid (HP7.out.no_own HL.out)
    obtain ⟨a0, a1, a2⟩ := HP7.out.cells
    replace a2 : _ = some (Value.string (bt m.txt)) := a2; unfold enS at a0; unfold enC at a1
    have hA7 := HP7.out.al
    have hB7 := HP7.out.bl
    have hAB := HP7.out.ab
    have g7 := HG7.out.g_lt
    have c7 := HG7.out.cells.1
    have f7 := HG7.out.frozen 0
    have hgo : some s.g ≠ s.ve.ownBlock := fun e => by have := (HG7.out.en.lt _ e.symm).1; omega
    have HGO := Lib.hid hgo
    clear hgo
    go_region_law ((refine step_append_lies _ (by rfl) _ _ _ (by rfl) (s.g + 1) 88 i0 _ 3 32 under_ens hi hz0 hz1 hz2 rfl (by omega) s.ve rs.length (ensCells rs) (by rfl) (by exact HG7.out.en.drew.alloc _) ⟨W7.heap.size, 0, none⟩ 1 1 (enCells (.mk m)) (by rfl) (by rfl) (by exact en_news W7 (.mk m)) (en_one _) (by omega) (by simp [maxLen]; omega) (by omega) (by simp; omega) _ rfl ?_; intro gg cap w8 hown hgrow hat hlt; have F8 : w8.frozen? ⟨s.g, 0, none⟩ = false := (hgrow.frozen_far ⟨s.g, 0, none⟩ (by simp; omega) HGO.out).trans (frozen_al1 W7 _ g7 f7); have C8 : w8.cell? ⟨s.g, 0, none⟩ = some s.ve := (hgrow.cell_far ⟨s.g, 0, none⟩ (by simp; omega) HGO.out).trans (cell_al1 W7 _ g7 c7); have HOwn := Lib.hid hown; have HGrow := Lib.hid hgrow; have HAt := Lib.hid hat; clear hown hgrow hat))
    all_goals
      go_wp2
      have HD := Lib.hid (ens_done HG7.out HOwn.out HGrow.out HAt.out)
      clear F8 C8 HOwn HGrow HAt
      revert HD
      generalize w8.setCell ⟨s.g, 0, none⟩ _ = W8
      intro HD
      obtain ⟨s8, hg8, hv8, hl8, hs8⟩ := HD.out
      have HL8 := Lib.hid hl8
      have HS8 := Lib.hid hs8
      have q0 := (hs8.cell hB7 HN7.out.2 0).trans HP7.out.r0
      have q1 := (hs8.cell hB7 HN7.out.2 1).trans HP7.out.r1
      have q2 := (hs8.cell hB7 HN7.out.2 2).trans HP7.out.r2
      have g8 : s.g < W8.heap.size := by rw [← hg8]; exact hl8.g_lt
      have hB8 : B < W8.heap.size := Nat.lt_of_lt_of_le hB7 hs8.size
      have c8 : W8.cell? ⟨s.g, 1, none⟩ = some s.vr := by rw [← hg8, ← hv8]; exact hl8.cells.2.1
      have f8 : W8.frozen? ⟨s.g, 1, none⟩ = false := by rw [← hg8]; exact hl8.frozen 1
      have hgo : some s.g ≠ s.vr.ownBlock := fun e => by
        have := (hl8.rc.lt s.g (by rw [hv8]; exact e.symm)).1
        omega
      have HGO8 := Lib.hid hgo
      have HO8 := Lib.hid (show W8.ownsRow (s.g + 1) 105 3 s.vr rs.length (rcsCells rs) by rw [← hv8, ← hg8]; exact hl8.rc)
      have HV8 := Lib.hid hv8
      have HG8 := Lib.hid hg8
      clear hl8 hs8 hgo hv8 hg8 HD c7 f7 a0 a1 a2
      go_region_law ((refine step_append_lies _ (by rfl) _ _ _ (by rfl) (s.g + 1) 105 j0 _ 3 24 under_rcs hj hy0 hy1 hy2 rfl (by omega) s.vr rs.length (rcsCells rs) (by rfl) (by exact HO8.out.drew.alloc _) ⟨W8.heap.size, 0, none⟩ 1 1 (rcCells ((.mk m) :: rs)) (by rfl) (by rfl) (by exact rc_news W8 ((.mk m) :: rs)) (rc_one _) (by omega) (by simp [maxLen]; omega) (by omega) (by simp; omega) _ rfl ?_; intro gg2 cap2 w9 hown hgrow hat hlt2; have F9 : w9.frozen? ⟨s.g, 1, none⟩ = false := (hgrow.frozen_far ⟨s.g, 1, none⟩ (by simp; omega) HGO8.out).trans (frozen_al1 W8 _ g8 f8); have C9 : w9.cell? ⟨s.g, 1, none⟩ = some s.vr := (hgrow.cell_far ⟨s.g, 1, none⟩ (by simp; omega) HGO8.out).trans (cell_al1 W8 _ g8 c8); have HOwn := Lib.hid hown; have HGrow := Lib.hid hgrow; have HAt := Lib.hid hat; clear hown hgrow hat))
      all_goals
        go_wp2
        go_end0
        have hd := rcs_done (e := (.mk m)) HL8.out (by rw [HG8.out]; exact HOwn.out) (by rw [HV8.out]; exact HGrow.out) (by rw [HV8.out]; exact HAt.out)
        rw [HG8.out] at hd
        obtain ⟨s9, hl9, hs9⟩ := hd
        exact ⟨rfl, s9, hl9.toAt, (HS7.out.trans HS8.out).trans hs9⟩
end
end Go.Proofs.Ytbjbmehkcfpahaa
