/- The contract of the object's close: what a closer ends. No condition but bounds on what is open and laid. -/
import Derived.Test.YtbjbmehkcfpahaaLayCl
namespace Go.Proofs.Ytbjbmehkcfpahaa
section
open Go.RowKit Lx
attribute [local go_sem] bt_size bt_get bt_list bt_toList bt_drop bt_take fld0 fld1 fld2
attribute [local go_sem ↓] Go.wp_at_zero Go.wp_at_succ

set_option maxHeartbeats 8000000 in
set_option maxRecDepth 100000 in
theorem close_I (w : World) (s : St) (rs : List En) (out : List Rt) (t : Rt) (h : LayAt w s rs out) (hn : rs.length + out.length ≤ 9000000) (hclo : cloB t = true) (h1 : (t.text == [105, 110]) = true) (h2 : (t.text == [44]) = false) (h3 : (t.text == [116, 104, 101, 110]) = false) :
    Calls Try.prog 62 #[.pointer (some ⟨s.g, 0, none⟩), tokV t] w fun e w' => LPost s w (closeL t rs).1 (out ++ (closeL t rs).2) (.returned (.tuple #[])) e w' := by
  have HOne := Lib.hid (clo_one hclo)
  have HL0 := Lib.hid (h.below (below_alloc w (boxT t)))
  have HS0 := Lib.hid (Step.of_below s (below_alloc w (boxT t)))
  have HX0 := Lib.hid (BX.new h t)
  have htp : topE (if t.text == [105, 110] then En.isBlk else En.loose) rs 0 = topE En.isBlk rs 0 := by rw [h1]; rfl
  clear h hclo
  unfold tokV
  cases hT : topE En.isBlk rs 0 with
  | none =>
    have HR := Lib.hid (show closeL t rs = (rs, []) by rw [closeL, htp, hT])
    have HI := Lib.hid (show rcO rs = -1 by rw [rcO_eq]; exact topE_none _ _ _ hT)
    clear htp hT
    go_enter Try.func62, Try.ntmps62
    go_wp2_with fail
    refine (reach_g _ s rs out s.g rfl HL0.out (by omega)).mono ?_
    rintro e w2 ⟨rfl, hb⟩
    have HL2 := Lib.hid (HL0.out.below hb)
    have HS2 := Lib.hid (HS0.out.trans (.of_below s hb))
    have HX2 := Lib.hid (HX0.out.below hb)
    obtain ⟨x0, x1, x2, x3, x4⟩ := HX2.out.at_
    clear hb
    unfold rcV
    clear x0 x2 x3 x4
    go_wp2_with fail
    refine (reach_g _ s rs out s.g rfl HL2.out (by omega)).mono ?_
    rintro e w3 ⟨rfl, hb⟩
    have HL3 := Lib.hid (HL2.out.below hb)
    have HS3 := Lib.hid (HS2.out.trans (.of_below s hb))
    have HX3 := Lib.hid (HX2.out.below hb)
    clear x1
    obtain ⟨x0, x1, x2, x3, x4⟩ := HX3.out.at_
    clear hb
    unfold rcV
    rw [HI.out]
    go_wp2
    go_region
    go_wp2
    go_end0
    exact ⟨rfl, s, by rw [HR.out]; simpa using HL3.out.below (Below.refl _ _).drew, HS3.out.drew⟩
  | some p =>
    obtain ⟨m, x, r⟩ := p
    obtain ⟨ab, e1, e2, e3⟩ := topE_some _ _ _ _ _ _ hT
    have hlen : rs.length = ab.length + r.length + 1 := by rw [e1]; simp; omega
    obtain ⟨n, hnr⟩ : ∃ n, n = r.length := ⟨_, rfl⟩
    rw [← hnr] at hlen
    have HNr := Lib.hid hnr
    have H1 := Lib.hid e1
    have HI := Lib.hid (show rcO rs = (n : Int) by rw [rcO_eq, e3, hnr])
    obtain rfl : m = nBlk ab := by omega
    clear e1 e2 e3 hnr
    cases hF : fitB t.text x with
    | false =>
      have HR := Lib.hid (show closeL t rs = (rs, []) by rw [closeL, htp, hT]; simp only; rw [if_neg (by rw [hF]; exact Bool.false_ne_true)])
      have HF := Lib.hid hF
      clear htp hT hF
      go_enter Try.func62, Try.ntmps62
      go_wp2_with fail
      refine (reach_g _ s rs out s.g rfl HL0.out (by omega)).mono ?_
      rintro e w2 ⟨rfl, hb⟩
      have HL2 := Lib.hid (HL0.out.below hb)
      have HS2 := Lib.hid (HS0.out.trans (.of_below s hb))
      have HX2 := Lib.hid (HX0.out.below hb)
      obtain ⟨x0, x1, x2, x3, x4⟩ := HX2.out.at_
      clear hb
      unfold rcV
      clear x0 x2 x3 x4
      go_wp2_with fail
      refine (reach_g _ s rs out s.g rfl HL2.out (by omega)).mono ?_
      rintro e w3 ⟨rfl, hb⟩
      have HL3 := Lib.hid (HL2.out.below hb)
      have HS3 := Lib.hid (HS2.out.trans (.of_below s hb))
      have HX3 := Lib.hid (HX2.out.below hb)
      clear x1
      obtain ⟨x0, x1, x2, x3, x4⟩ := HX3.out.at_
      clear hb
      unfold rcV
      rw [HI.out]
      have HLs := HL3.out
      rw [H1.out] at HLs
      obtain ⟨q, cap, hv, hcap, hm, hq, k0, k1, k2⟩ := entry_cells HLs
      have c0 := HL3.out.cells.1
      have hgl := HL3.out.g_lt
      rw [hv] at c0
      rw [← HNr.out] at k0 k1 k2 c0 hcap
      have HV := Lib.hid hv
      clear hv HLs
      go_wp2
      have i1 : (0 : Int) ≤ (n : Int) := by omega
      have i2 : (n : Int) < (ab.length : Int) + (n : Int) + 1 := by omega
      have i3 : n < ab.length + n + 1 := by omega
      have hX4 := HX3.out.lt
      go_region_held3 (fun w' => w'.cell? ⟨w.heap.size, 1, none⟩ = some (.string (bt t.text)) ∧ w'.cell? ⟨s.g, 0, none⟩ = some (.slice (some ⟨q, 0, none⟩) (ab.length + n + 1) cap) ∧ w'.cell? ⟨q, n * 3, none⟩ = some (.int .i64 (enS x)) ∧ w'.cell? ⟨q, n * 3 + 1, none⟩ = some (.int .i64 (enC x)) ∧ w'.cell? ⟨q, n * 3 + 2, none⟩ = some (.string (bt (enK x))))
        (first
          | (go_keep; done)
          | (go_split_ands
             exact ⟨(hb4.cell (p := ⟨w.heap.size, 1, none⟩) hX4).trans x1, (hb4.cell (p := ⟨s.g, 0, none⟩) hgl).trans c0, (hb4.cell (p := ⟨q, n * 3, none⟩) hq).trans k0, (hb4.cell (p := ⟨q, n * 3 + 1, none⟩) hq).trans k1, (hb4.cell (p := ⟨q, n * 3 + 2, none⟩) hq).trans k2⟩))
        ((go_at_call 95; refine (matches_any t.text x _ HOne.out).mono ?_; rintro e w4 ⟨rfl, hb4⟩; rw [HF.out]))
      have HL4 := Lib.hid ((HL3.out.below (Below.refl _ _).drew).below hb4)
      have HS4 := Lib.hid (HS3.out.drew.trans (.of_below s hb4))
      have HX4 := Lib.hid ((HX3.out.below (Below.refl _ _).drew).below hb4)
      clear hb4
      go_wp2
      go_end0
      exact ⟨rfl, s, by rw [HR.out]; simpa using HL4.out, HS4.out⟩
    | true =>
      have HR := Lib.hid (show closeL t rs = (r, List.replicate (nBlk ab) (insT [125] t)) by rw [closeL, htp, hT]; simp only; rw [if_pos hF]; simp [h2, h3])
      have HF := Lib.hid hF
      clear htp hT hF
      go_enter Try.func62, Try.ntmps62
      go_wp2_with fail
      refine (reach_g _ s rs out s.g rfl HL0.out (by omega)).mono ?_
      rintro e w2 ⟨rfl, hb⟩
      have HL2 := Lib.hid (HL0.out.below hb)
      have HS2 := Lib.hid (HS0.out.trans (.of_below s hb))
      have HX2 := Lib.hid (HX0.out.below hb)
      obtain ⟨x0, x1, x2, x3, x4⟩ := HX2.out.at_
      clear hb
      unfold rcV
      clear x0 x2 x3 x4
      go_wp2_with fail
      refine (reach_g _ s rs out s.g rfl HL2.out (by omega)).mono ?_
      rintro e w3 ⟨rfl, hb⟩
      have HL3 := Lib.hid (HL2.out.below hb)
      have HS3 := Lib.hid (HS2.out.trans (.of_below s hb))
      have HX3 := Lib.hid (HX2.out.below hb)
      clear x1
      obtain ⟨x0, x1, x2, x3, x4⟩ := HX3.out.at_
      clear hb
      unfold rcV
      rw [HI.out]
      have HLs := HL3.out
      rw [H1.out] at HLs
      obtain ⟨q, cap, hv, hcap, hm, hq, k0, k1, k2⟩ := entry_cells HLs
      have c0 := HL3.out.cells.1
      have hgl := HL3.out.g_lt
      rw [hv] at c0
      rw [← HNr.out] at k0 k1 k2 c0 hcap
      have HV := Lib.hid hv
      clear hv HLs
      go_wp2
      have i1 : (0 : Int) ≤ (n : Int) := by omega
      have i2 : (n : Int) < (ab.length : Int) + (n : Int) + 1 := by omega
      have i3 : n < ab.length + n + 1 := by omega
      have hX4 := HX3.out.lt
      go_region_held3 (fun w' => w'.cell? ⟨w.heap.size, 1, none⟩ = some (.string (bt t.text)) ∧ w'.cell? ⟨s.g, 0, none⟩ = some (.slice (some ⟨q, 0, none⟩) (ab.length + n + 1) cap) ∧ w'.cell? ⟨q, n * 3, none⟩ = some (.int .i64 (enS x)) ∧ w'.cell? ⟨q, n * 3 + 1, none⟩ = some (.int .i64 (enC x)) ∧ w'.cell? ⟨q, n * 3 + 2, none⟩ = some (.string (bt (enK x))))
        (first
          | (go_keep; done)
          | (go_split_ands
             exact ⟨(hb4.cell (p := ⟨w.heap.size, 1, none⟩) hX4).trans x1, (hb4.cell (p := ⟨s.g, 0, none⟩) hgl).trans c0, (hb4.cell (p := ⟨q, n * 3, none⟩) hq).trans k0, (hb4.cell (p := ⟨q, n * 3 + 1, none⟩) hq).trans k1, (hb4.cell (p := ⟨q, n * 3 + 2, none⟩) hq).trans k2⟩))
        ((go_at_call 95; refine (matches_any t.text x _ HOne.out).mono ?_; rintro e w4 ⟨rfl, hb4⟩; rw [HF.out]))
      have HL4 := Lib.hid ((HL3.out.below (Below.refl _ _).drew).below hb4)
      have HS4 := Lib.hid (HS3.out.drew.trans (.of_below s hb4))
      have HX4 := Lib.hid ((HX3.out.below (Below.refl _ _).drew).below hb4)
      have d0 := (hb4.cell (p := ⟨s.g, 0, none⟩) hgl).trans c0
      have hg4 : s.g < w4.heap.size := Nat.lt_of_lt_of_le hgl hb4.size
      have hq4 : q < w4.heap.size := Nat.lt_of_lt_of_le hq hb4.size
      obtain ⟨ve, hve⟩ : ∃ ve, ve = s.ve := ⟨_, rfl⟩
      have HVE := Lib.hid hve
      have HV4 := Lib.hid (show ve = .slice (some ⟨q, 0, none⟩) (ab.length + r.length + 1) cap from hve.trans HV.out)
      clear hb4 c0 k0 k1 k2 x0 x1 x2 x3 x4 hX4 hgl hq hve
      go_wp2
      · go_loopw [45] (fun i wr => CloseRel s w w.heap.size t ve s.g ab rs out i wr) (fun i _ => ab.length - (intOf i).toNat)
        case atStart => exact ⟨0, s, Nat.zero_le _, rfl, HVE.out.symm, rfl, by simpa [nBlk] using HL4.out, HS4.out, HX4.out⟩
        case round =>
          obtain ⟨k, s1, hk, rfl, hv1, hg1, hl1, hs1, hx1⟩ := hrel
          have HL5 := Lib.hid hl1
          have HS5 := Lib.hid hs1
          have HX5 := Lib.hid hx1
          have HV5 := Lib.hid hv1
          have HG5 := Lib.hid hg1
          clear hl1 hs1 hx1 hv1 hg1
          by_cases hlt : k < ab.length
          · exfalso; omega
          · obtain rfl : k = ab.length := by omega
            have HLx := Lib.hid (show LayAt wr s1 rs (out ++ List.replicate (nBlk ab) (insT [125] t)) by have := HL5.out; rwa [show ab.reverse.take ab.length = ab.reverse from List.take_of_length_le (by simp), nBlk_rev] at this)
            obtain ⟨x0, x1, x2, x3, x4⟩ := HX5.out.at_
            clear HL5 hlt hk
            go_wp2_with fail
            rw [show (n : Int) = ((r.length : Nat) : Int) from by rw [← HNr.out]]
            refine (cut_g wr s1 (ab ++ [x]) r _ s.g HG5.out (by have := HLx.out; rw [H1.out] at this; simpa using this) (by simp; omega) (by simp; rw [← HNr.out]; omega)).mono ?_
            rintro e w8 ⟨rfl, s8, hl8, hs8⟩
            have HL8 := Lib.hid hl8
            have HS8 := Lib.hid (HS5.out.trans hs8)
            have HX8 := Lib.hid (HX5.out.step hs8)
            clear hl8 hs8 x0 x1 x2 x3 x4
            obtain ⟨x0, x1, x2, x3, x4⟩ := HX8.out.at_
            go_wp2
            go_end0
            exact ⟨rfl, s8, by rw [HR.out]; exact HL8.out, HS8.out⟩
      · go_loopw [45] (fun i wr => CloseRel s w w.heap.size t ve s.g ab rs out i wr) (fun i _ => ab.length - (intOf i).toNat)
        case atStart => exact ⟨0, s, Nat.zero_le _, rfl, HVE.out.symm, rfl, by simpa [nBlk] using HL4.out, HS4.out, HX4.out⟩
        case round =>
          obtain ⟨k, s1, hk, rfl, hv1, hg1, hl1, hs1, hx1⟩ := hrel
          have HL5 := Lib.hid hl1
          have HS5 := Lib.hid hs1
          have HX5 := Lib.hid hx1
          have HV5 := Lib.hid hv1
          have HG5 := Lib.hid hg1
          clear hl1 hs1 hx1 hv1 hg1
          by_cases hlt : k < ab.length
          · have HLs := HL5.out
            rw [H1.out] at HLs
            have hcells := above_cells HLs (HV5.out.trans HV4.out) k (by simpa using hlt)
            have hq5 := (HLs.en.lt q (by rw [HV5.out, HV4.out]; rfl)).2
            have hsn := nBlk_snoc ab.reverse k (by simpa using hlt)
            have HSn := Lib.hid hsn
            clear hsn HLs
            have hnb : nBlk (ab.reverse.take k) ≤ ab.length := Nat.le_trans (nBlk_le _) (by simp; omega)
            rw [← HNr.out] at hcells
            revert hcells HSn
            generalize ab.reverse[k]'(by simpa using hlt) = y
            intro hcells HSn
            obtain ⟨k0, k1, k2⟩ := hcells
            cases hyb : y.isBlk with
            | true =>
              go_wp2_with fail
              refine (isBlock_any y _).mono ?_
              rintro e w6 ⟨rfl, hb6⟩
              rw [hyb]
              have HL6 := Lib.hid ((HL5.out.below (below_alloc _ (boxE y))).below hb6)
              have HS6 := Lib.hid (HS5.out.trans (.of_below s1 (blw2 (below_alloc _ (boxE y)) hb6)))
              have HX6 := Lib.hid ((HX5.out.below (below_alloc _ (boxE y))).below hb6)
              obtain ⟨x0, x1, x2, x3, x4⟩ := HX6.out.at_
              have HYb := Lib.hid hyb
              clear hb6 k0 k1 k2 hyb
              go_wp2_with fail
              refine (insert_eg w6 s1 rs _ [125] t s.g HG5.out HL6.out (by simp; omega)).mono ?_
              rintro e w7 ⟨rfl, s7, hv7, hl7, hs7⟩
              have HL7 := Lib.hid hl7
              have HS7 := Lib.hid (HS6.out.trans hs7)
              have HX7 := Lib.hid (HX6.out.step hs7)
              have HV7 := Lib.hid (hv7.trans HV5.out)
              have HG7 := Lib.hid (hs7.g.trans HG5.out)
              clear hl7 hs7 hv7 x0 x1 x2 x3 x4
              go_wp2
              go_roundw
              case rel => exact ⟨k + 1, s7, by omega, by go_num, HV7.out, HG7.out, by have := HL7.out; rw [HSn.out, HYb.out, if_pos rfl, List.replicate_succ', ← List.append_assoc]; exact this, HS7.out, HX7.out⟩
              case measure => simp [intOf]; omega
            | false =>
              go_wp2_with fail
              refine (isBlock_any y _).mono ?_
              rintro e w6 ⟨rfl, hb6⟩
              rw [hyb]
              have HL6 := Lib.hid ((HL5.out.below (below_alloc _ (boxE y))).below hb6)
              have HS6 := Lib.hid (HS5.out.trans (.of_below s1 (blw2 (below_alloc _ (boxE y)) hb6)))
              have HX6 := Lib.hid ((HX5.out.below (below_alloc _ (boxE y))).below hb6)
              have HYb := Lib.hid hyb
              clear hb6 k0 k1 k2 hyb
              go_wp2
              go_roundw
              case rel => exact ⟨k + 1, s1, by omega, by go_num, HV5.out, HG5.out, by have := HL6.out; rw [HSn.out, HYb.out, if_neg Bool.false_ne_true]; exact this, HS6.out, HX6.out⟩
              case measure => simp [intOf]; omega
          · obtain rfl : k = ab.length := by omega
            have HLx := Lib.hid (show LayAt wr s1 rs (out ++ List.replicate (nBlk ab) (insT [125] t)) by have := HL5.out; rwa [show ab.reverse.take ab.length = ab.reverse from List.take_of_length_le (by simp), nBlk_rev] at this)
            obtain ⟨x0, x1, x2, x3, x4⟩ := HX5.out.at_
            clear HL5 hlt hk
            go_wp2_with fail
            rw [show (n : Int) = ((r.length : Nat) : Int) from by rw [← HNr.out]]
            refine (cut_g wr s1 (ab ++ [x]) r _ s.g HG5.out (by have := HLx.out; rw [H1.out] at this; simpa using this) (by simp; omega) (by simp; rw [← HNr.out]; omega)).mono ?_
            rintro e w8 ⟨rfl, s8, hl8, hs8⟩
            have HL8 := Lib.hid hl8
            have HS8 := Lib.hid (HS5.out.trans hs8)
            have HX8 := Lib.hid (HX5.out.step hs8)
            clear hl8 hs8 x0 x1 x2 x3 x4
            obtain ⟨x0, x1, x2, x3, x4⟩ := HX8.out.at_
            go_wp2
            go_end0
            exact ⟨rfl, s8, by rw [HR.out]; exact HL8.out, HS8.out⟩
end

section
open Go.RowKit Lx
attribute [local go_sem] bt_size bt_get bt_list bt_toList bt_drop bt_take fld0 fld1 fld2
attribute [local go_sem ↓] Go.wp_at_zero Go.wp_at_succ

set_option maxHeartbeats 8000000 in
set_option maxRecDepth 100000 in
theorem close_M (w : World) (s : St) (rs : List En) (out : List Rt) (t : Rt) (h : LayAt w s rs out) (hn : rs.length + out.length ≤ 9000000) (hclo : cloB t = true) (h1 : (t.text == [105, 110]) = false) (h2 : (t.text == [44]) = true) (_h3 : (t.text == [116, 104, 101, 110]) = false) :
    Calls Try.prog 62 #[.pointer (some ⟨s.g, 0, none⟩), tokV t] w fun e w' => LPost s w (closeL t rs).1 (out ++ (closeL t rs).2) (.returned (.tuple #[])) e w' := by
  have HOne := Lib.hid (clo_one hclo)
  have HL0 := Lib.hid (h.below (below_alloc w (boxT t)))
  have HS0 := Lib.hid (Step.of_below s (below_alloc w (boxT t)))
  have HX0 := Lib.hid (BX.new h t)
  have htp : topE (if t.text == [105, 110] then En.isBlk else En.loose) rs 0 = topE En.loose rs 0 := by rw [h1]; rfl
  clear h hclo
  unfold tokV
  cases hT : topE En.loose rs 0 with
  | none =>
    have HR := Lib.hid (show closeL t rs = (rs, []) by rw [closeL, htp, hT])
    have HI := Lib.hid (show rcF rs = -1 by rw [rcF_eq]; exact topE_none _ _ _ hT)
    clear htp hT
    go_enter Try.func62, Try.ntmps62
    go_wp2_with fail
    refine (reach_g _ s rs out s.g rfl HL0.out (by omega)).mono ?_
    rintro e w2 ⟨rfl, hb⟩
    have HL2 := Lib.hid (HL0.out.below hb)
    have HS2 := Lib.hid (HS0.out.trans (.of_below s hb))
    have HX2 := Lib.hid (HX0.out.below hb)
    obtain ⟨x0, x1, x2, x3, x4⟩ := HX2.out.at_
    clear hb
    unfold rcV
    rw [HI.out]
    go_wp2
    go_region
    go_wp2
    go_end0
    exact ⟨rfl, s, by rw [HR.out]; simpa using HL2.out.below (Below.refl _ _).drew, HS2.out.drew⟩
  | some p =>
    obtain ⟨m, x, r⟩ := p
    obtain ⟨ab, e1, e2, e3⟩ := topE_some _ _ _ _ _ _ hT
    have hlen : rs.length = ab.length + r.length + 1 := by rw [e1]; simp; omega
    obtain ⟨n, hnr⟩ : ∃ n, n = r.length := ⟨_, rfl⟩
    rw [← hnr] at hlen
    have HNr := Lib.hid hnr
    have H1 := Lib.hid e1
    have HI := Lib.hid (show rcF rs = (n : Int) by rw [rcF_eq, e3, hnr])
    obtain rfl : m = nBlk ab := by omega
    clear e1 e2 e3 hnr
    cases hF : fitB t.text x with
    | false =>
      have HR := Lib.hid (show closeL t rs = (rs, []) by rw [closeL, htp, hT]; simp only; rw [if_neg (by rw [hF]; exact Bool.false_ne_true)])
      have HF := Lib.hid hF
      clear htp hT hF
      go_enter Try.func62, Try.ntmps62
      go_wp2_with fail
      refine (reach_g _ s rs out s.g rfl HL0.out (by omega)).mono ?_
      rintro e w2 ⟨rfl, hb⟩
      have HL2 := Lib.hid (HL0.out.below hb)
      have HS2 := Lib.hid (HS0.out.trans (.of_below s hb))
      have HX2 := Lib.hid (HX0.out.below hb)
      obtain ⟨x0, x1, x2, x3, x4⟩ := HX2.out.at_
      clear hb
      unfold rcV
      rw [HI.out]
      have HLs := HL2.out
      rw [H1.out] at HLs
      obtain ⟨q, cap, hv, hcap, hm, hq, k0, k1, k2⟩ := entry_cells HLs
      have c0 := HL2.out.cells.1
      have hgl := HL2.out.g_lt
      rw [hv] at c0
      rw [← HNr.out] at k0 k1 k2 c0 hcap
      have HV := Lib.hid hv
      clear hv HLs
      go_wp2
      have i1 : (0 : Int) ≤ (n : Int) := by omega
      have i2 : (n : Int) < (ab.length : Int) + (n : Int) + 1 := by omega
      have i3 : n < ab.length + n + 1 := by omega
      have hX4 := HX2.out.lt
      go_region_held3 (fun w' => w'.cell? ⟨w.heap.size, 1, none⟩ = some (.string (bt t.text)) ∧ w'.cell? ⟨s.g, 0, none⟩ = some (.slice (some ⟨q, 0, none⟩) (ab.length + n + 1) cap) ∧ w'.cell? ⟨q, n * 3, none⟩ = some (.int .i64 (enS x)) ∧ w'.cell? ⟨q, n * 3 + 1, none⟩ = some (.int .i64 (enC x)) ∧ w'.cell? ⟨q, n * 3 + 2, none⟩ = some (.string (bt (enK x))))
        (first
          | (go_keep; done)
          | (go_split_ands
             exact ⟨(hb4.cell (p := ⟨w.heap.size, 1, none⟩) hX4).trans x1, (hb4.cell (p := ⟨s.g, 0, none⟩) hgl).trans c0, (hb4.cell (p := ⟨q, n * 3, none⟩) hq).trans k0, (hb4.cell (p := ⟨q, n * 3 + 1, none⟩) hq).trans k1, (hb4.cell (p := ⟨q, n * 3 + 2, none⟩) hq).trans k2⟩))
        ((go_at_call 95; refine (matches_any t.text x _ HOne.out).mono ?_; rintro e w4 ⟨rfl, hb4⟩; rw [HF.out]))
      have HL4 := Lib.hid ((HL2.out.below (Below.refl _ _).drew).below hb4)
      have HS4 := Lib.hid (HS2.out.drew.trans (.of_below s hb4))
      have HX4 := Lib.hid ((HX2.out.below (Below.refl _ _).drew).below hb4)
      clear hb4
      go_wp2
      go_end0
      exact ⟨rfl, s, by rw [HR.out]; simpa using HL4.out, HS4.out⟩
    | true =>
      have HR := Lib.hid (show closeL t rs = (x :: r, List.replicate (nBlk ab) (insT [125] t)) by rw [closeL, htp, hT]; simp only; rw [if_pos hF]; simp [h2])
      have HF := Lib.hid hF
      clear htp hT hF
      go_enter Try.func62, Try.ntmps62
      go_wp2_with fail
      refine (reach_g _ s rs out s.g rfl HL0.out (by omega)).mono ?_
      rintro e w2 ⟨rfl, hb⟩
      have HL2 := Lib.hid (HL0.out.below hb)
      have HS2 := Lib.hid (HS0.out.trans (.of_below s hb))
      have HX2 := Lib.hid (HX0.out.below hb)
      obtain ⟨x0, x1, x2, x3, x4⟩ := HX2.out.at_
      clear hb
      unfold rcV
      rw [HI.out]
      have HLs := HL2.out
      rw [H1.out] at HLs
      obtain ⟨q, cap, hv, hcap, hm, hq, k0, k1, k2⟩ := entry_cells HLs
      have c0 := HL2.out.cells.1
      have hgl := HL2.out.g_lt
      rw [hv] at c0
      rw [← HNr.out] at k0 k1 k2 c0 hcap
      have HV := Lib.hid hv
      clear hv HLs
      go_wp2
      have i1 : (0 : Int) ≤ (n : Int) := by omega
      have i2 : (n : Int) < (ab.length : Int) + (n : Int) + 1 := by omega
      have i3 : n < ab.length + n + 1 := by omega
      have hX4 := HX2.out.lt
      go_region_held3 (fun w' => w'.cell? ⟨w.heap.size, 1, none⟩ = some (.string (bt t.text)) ∧ w'.cell? ⟨s.g, 0, none⟩ = some (.slice (some ⟨q, 0, none⟩) (ab.length + n + 1) cap) ∧ w'.cell? ⟨q, n * 3, none⟩ = some (.int .i64 (enS x)) ∧ w'.cell? ⟨q, n * 3 + 1, none⟩ = some (.int .i64 (enC x)) ∧ w'.cell? ⟨q, n * 3 + 2, none⟩ = some (.string (bt (enK x))))
        (first
          | (go_keep; done)
          | (go_split_ands
             exact ⟨(hb4.cell (p := ⟨w.heap.size, 1, none⟩) hX4).trans x1, (hb4.cell (p := ⟨s.g, 0, none⟩) hgl).trans c0, (hb4.cell (p := ⟨q, n * 3, none⟩) hq).trans k0, (hb4.cell (p := ⟨q, n * 3 + 1, none⟩) hq).trans k1, (hb4.cell (p := ⟨q, n * 3 + 2, none⟩) hq).trans k2⟩))
        ((go_at_call 95; refine (matches_any t.text x _ HOne.out).mono ?_; rintro e w4 ⟨rfl, hb4⟩; rw [HF.out]))
      have HL4 := Lib.hid ((HL2.out.below (Below.refl _ _).drew).below hb4)
      have HS4 := Lib.hid (HS2.out.drew.trans (.of_below s hb4))
      have HX4 := Lib.hid ((HX2.out.below (Below.refl _ _).drew).below hb4)
      have d0 := (hb4.cell (p := ⟨s.g, 0, none⟩) hgl).trans c0
      have hg4 : s.g < w4.heap.size := Nat.lt_of_lt_of_le hgl hb4.size
      have hq4 : q < w4.heap.size := Nat.lt_of_lt_of_le hq hb4.size
      obtain ⟨ve, hve⟩ : ∃ ve, ve = s.ve := ⟨_, rfl⟩
      have HVE := Lib.hid hve
      have HV4 := Lib.hid (show ve = .slice (some ⟨q, 0, none⟩) (ab.length + r.length + 1) cap from hve.trans HV.out)
      clear hb4 c0 k0 k1 k2 x0 x1 x2 x3 x4 hX4 hgl hq hve
      go_wp2
      · go_loopw [45] (fun i wr => CloseRel s w w.heap.size t ve s.g ab rs out i wr) (fun i _ => ab.length - (intOf i).toNat)
        case atStart => exact ⟨0, s, Nat.zero_le _, rfl, HVE.out.symm, rfl, by simpa [nBlk] using HL4.out, HS4.out, HX4.out⟩
        case round =>
          obtain ⟨k, s1, hk, rfl, hv1, hg1, hl1, hs1, hx1⟩ := hrel
          have HL5 := Lib.hid hl1
          have HS5 := Lib.hid hs1
          have HX5 := Lib.hid hx1
          have HV5 := Lib.hid hv1
          have HG5 := Lib.hid hg1
          clear hl1 hs1 hx1 hv1 hg1
          by_cases hlt : k < ab.length
          · exfalso; omega
          · obtain rfl : k = ab.length := by omega
            have HLx := Lib.hid (show LayAt wr s1 rs (out ++ List.replicate (nBlk ab) (insT [125] t)) by have := HL5.out; rwa [show ab.reverse.take ab.length = ab.reverse from List.take_of_length_le (by simp), nBlk_rev] at this)
            obtain ⟨x0, x1, x2, x3, x4⟩ := HX5.out.at_
            clear HL5 hlt hk
            go_wp2_with fail
            rw [show ((n : Int) + 1) = (((x :: r).length : Nat) : Int) from by rw [List.length_cons, ← HNr.out]; omega]
            refine (cut_g wr s1 ab (x :: r) _ s.g HG5.out (by rw [← H1.out]; exact HLx.out) (by simp; omega) (by simp; rw [← HNr.out]; omega)).mono ?_
            rintro e w8 ⟨rfl, s8, hl8, hs8⟩
            have HL8 := Lib.hid hl8
            have HS8 := Lib.hid (HS5.out.trans hs8)
            clear hl8 hs8
            go_wp2
            go_end0
            exact ⟨rfl, s8, by rw [HR.out]; exact HL8.out, HS8.out⟩
      · go_loopw [45] (fun i wr => CloseRel s w w.heap.size t ve s.g ab rs out i wr) (fun i _ => ab.length - (intOf i).toNat)
        case atStart => exact ⟨0, s, Nat.zero_le _, rfl, HVE.out.symm, rfl, by simpa [nBlk] using HL4.out, HS4.out, HX4.out⟩
        case round =>
          obtain ⟨k, s1, hk, rfl, hv1, hg1, hl1, hs1, hx1⟩ := hrel
          have HL5 := Lib.hid hl1
          have HS5 := Lib.hid hs1
          have HX5 := Lib.hid hx1
          have HV5 := Lib.hid hv1
          have HG5 := Lib.hid hg1
          clear hl1 hs1 hx1 hv1 hg1
          by_cases hlt : k < ab.length
          · have HLs := HL5.out
            rw [H1.out] at HLs
            have hcells := above_cells HLs (HV5.out.trans HV4.out) k (by simpa using hlt)
            have hq5 := (HLs.en.lt q (by rw [HV5.out, HV4.out]; rfl)).2
            have hsn := nBlk_snoc ab.reverse k (by simpa using hlt)
            have HSn := Lib.hid hsn
            clear hsn HLs
            have hnb : nBlk (ab.reverse.take k) ≤ ab.length := Nat.le_trans (nBlk_le _) (by simp; omega)
            rw [← HNr.out] at hcells
            revert hcells HSn
            generalize ab.reverse[k]'(by simpa using hlt) = y
            intro hcells HSn
            obtain ⟨k0, k1, k2⟩ := hcells
            cases hyb : y.isBlk with
            | true =>
              go_wp2_with fail
              refine (isBlock_any y _).mono ?_
              rintro e w6 ⟨rfl, hb6⟩
              rw [hyb]
              have HL6 := Lib.hid ((HL5.out.below (below_alloc _ (boxE y))).below hb6)
              have HS6 := Lib.hid (HS5.out.trans (.of_below s1 (blw2 (below_alloc _ (boxE y)) hb6)))
              have HX6 := Lib.hid ((HX5.out.below (below_alloc _ (boxE y))).below hb6)
              obtain ⟨x0, x1, x2, x3, x4⟩ := HX6.out.at_
              have HYb := Lib.hid hyb
              clear hb6 k0 k1 k2 hyb
              go_wp2_with fail
              refine (insert_eg w6 s1 rs _ [125] t s.g HG5.out HL6.out (by simp; omega)).mono ?_
              rintro e w7 ⟨rfl, s7, hv7, hl7, hs7⟩
              have HL7 := Lib.hid hl7
              have HS7 := Lib.hid (HS6.out.trans hs7)
              have HX7 := Lib.hid (HX6.out.step hs7)
              have HV7 := Lib.hid (hv7.trans HV5.out)
              have HG7 := Lib.hid (hs7.g.trans HG5.out)
              clear hl7 hs7 hv7 x0 x1 x2 x3 x4
              go_wp2
              go_roundw
              case rel => exact ⟨k + 1, s7, by omega, by go_num, HV7.out, HG7.out, by have := HL7.out; rw [HSn.out, HYb.out, if_pos rfl, List.replicate_succ', ← List.append_assoc]; exact this, HS7.out, HX7.out⟩
              case measure => simp [intOf]; omega
            | false =>
              go_wp2_with fail
              refine (isBlock_any y _).mono ?_
              rintro e w6 ⟨rfl, hb6⟩
              rw [hyb]
              have HL6 := Lib.hid ((HL5.out.below (below_alloc _ (boxE y))).below hb6)
              have HS6 := Lib.hid (HS5.out.trans (.of_below s1 (blw2 (below_alloc _ (boxE y)) hb6)))
              have HX6 := Lib.hid ((HX5.out.below (below_alloc _ (boxE y))).below hb6)
              have HYb := Lib.hid hyb
              clear hb6 k0 k1 k2 hyb
              go_wp2
              go_roundw
              case rel => exact ⟨k + 1, s1, by omega, by go_num, HV5.out, HG5.out, by have := HL6.out; rw [HSn.out, HYb.out, if_neg Bool.false_ne_true]; exact this, HS6.out, HX6.out⟩
              case measure => simp [intOf]; omega
          · obtain rfl : k = ab.length := by omega
            have HLx := Lib.hid (show LayAt wr s1 rs (out ++ List.replicate (nBlk ab) (insT [125] t)) by have := HL5.out; rwa [show ab.reverse.take ab.length = ab.reverse from List.take_of_length_le (by simp), nBlk_rev] at this)
            obtain ⟨x0, x1, x2, x3, x4⟩ := HX5.out.at_
            clear HL5 hlt hk
            go_wp2_with fail
            rw [show ((n : Int) + 1) = (((x :: r).length : Nat) : Int) from by rw [List.length_cons, ← HNr.out]; omega]
            refine (cut_g wr s1 ab (x :: r) _ s.g HG5.out (by rw [← H1.out]; exact HLx.out) (by simp; omega) (by simp; rw [← HNr.out]; omega)).mono ?_
            rintro e w8 ⟨rfl, s8, hl8, hs8⟩
            have HL8 := Lib.hid hl8
            have HS8 := Lib.hid (HS5.out.trans hs8)
            clear hl8 hs8
            go_wp2
            go_end0
            exact ⟨rfl, s8, by rw [HR.out]; exact HL8.out, HS8.out⟩
end
end Go.Proofs.Ytbjbmehkcfpahaa
