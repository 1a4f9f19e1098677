/- The contract of the law awake: the chapter's example. No condition. -/
import Derived.Test.YtfcogjlojfcfkaaGreatNR
namespace Go.Proofs.YtfcogjlojfcfkaaGreat
open Go.RowKit Ex0 Go.Shelf
attribute [local go_sem] bt_size bt_list bt_toList

theorem cell_lt {W : World} {b o : Nat} {v : Value} (h : W.cell? ⟨b, o, none⟩ = some v) : b < W.heap.size := by
  simp only [World.cell?] at h
  split at h
  · rename_i hh
    exact (Array.getElem?_eq_some_iff.1 hh).1
  · cases h
theorem come {ops : Array Oper} {i : Nat} {d : Array Bool} {o : Oper} (ho : ops[i]? = some o) (hall : ∀ e ∈ o.after, Region.binds .any e = true → d.getD e.on false = true) (k : Nat) (h : (ops[i]?.any fun o => o.after.any fun e => decide (e.on = k) && Region.binds .any e) = true) : d.getD k false = true := by
  rw [ho] at h
  obtain ⟨i, hi, he⟩ := Array.any_eq_true.1 h
  simp only [Bool.and_eq_true, decide_eq_true_eq] at he
  rw [← he.1]
  exact hall _ (Array.getElem_mem hi) he.2

set_option maxHeartbeats 4000000 in
set_option maxRecDepth 100000 in
theorem awake_c : AwakeC := by
  intro w
  have hmx : Tryz.prog.follows .mixedOrders = true := by kernel_rfl
  have s1 : (⟨#[102]⟩ : ByteArray) = bt [102] := rfl
  have s2 : (⟨#[120]⟩ : ByteArray) = bt [120] := rfl
  have s3 : (⟨#[121]⟩ : ByteArray) = bt [121] := rfl
  have s4 : (⟨#[97]⟩ : ByteArray) = bt [97] := rfl
  have s5 : (⟨#[98]⟩ : ByteArray) = bt [98] := rfl
  have s6 : (⟨#[99]⟩ : ByteArray) = bt [99] := rfl
  go_enter Tryz.func6, Tryz.ntmps6
  go_wp2_with (first
    | (go_at_call 13; refine (v_c [102] _).mono ?_; rintro e w1 ⟨rfl, rfl⟩; unfold varV exV varBox exBox)
    | (go_at_call 13; refine (v_c [120] _).mono ?_; rintro e w2 ⟨rfl, rfl⟩; unfold varV exV varBox exBox))

  obtain ⟨W0, hW0⟩ : ∃ W0, W0 = (((w.alloc (.cells #[.int .i64 1, .string (bt [102]), .int .i64 0, .int .i64 0, .slice none 0 0, .slice none 0 0, .slice none 0 0, .slice none 0 0] 27)).alloc (.cells #[.int .i64 1, .string (bt [120]), .int .i64 0, .int .i64 0, .slice none 0 0, .slice none 0 0, .slice none 0 0, .slice none 0 0] 27)).alloc (.cells #[.int .i64 1, .string (bt [102]), .int .i64 0, .int .i64 0, .slice none 0 0, .slice none 0 0, .slice none 0 0, .slice none 0 0, .int .i64 1, .string (bt [120]), .int .i64 0, .int .i64 0, .slice none 0 0, .slice none 0 0, .slice none 0 0, .slice none 0 0] 27)).alloc (.cells #[.int .i64 4, .string ⟨#[]⟩, .int .i64 0, .int .i64 0, .slice none 0 0, .slice (some ⟨w.heap.size + 1 + 1, 0, none⟩) 2 2, .slice none 0 0, .slice none 0 0] 27) := ⟨_, rfl⟩
  have hfx : W0.heap[w.heap.size + 1 + 1 + 1]? = some (.cells #[.int .i64 4, .string ⟨#[]⟩, .int .i64 0, .int .i64 0, .slice none 0 0, .slice (some ⟨w.heap.size + 1 + 1, 0, none⟩) 2 2, .slice none 0 0, .slice none 0 0] 27 (0, 0)) := by rw [hW0]; exact hp_nw _ _ (by simp)
  have hf2 : W0.heap[w.heap.size + 1 + 1]? = some (.cells #[.int .i64 1, .string (bt [102]), .int .i64 0, .int .i64 0, .slice none 0 0, .slice none 0 0, .slice none 0 0, .slice none 0 0, .int .i64 1, .string (bt [120]), .int .i64 0, .int .i64 0, .slice none 0 0, .slice none 0 0, .slice none 0 0, .slice none 0 0] 27 (0, 0)) := by rw [hW0]; exact hp_at (hp_nw _ _ (by simp)) _
  have hb0 : Below w.heap.size w W0 := by
    rw [hW0]
    exact (((below_alloc' _ _).alloc (by simp) _).alloc (by simp <;> omega) _).alloc (by simp <;> omega) _
  rw [← hW0]
  have HX := Lib.hid hfx
  have HF := Lib.hid hf2
  have HB0 := Lib.hid hb0
  clear hW0 hfx hf2 hb0
  apply region_inv (fun d a W => ∃ t0 t1 t2 t3 t4 t5 t6 t7 t8, a = { tmps := List.toArray ((.bool false) :: (.pointer (some ⟨w.heap.size + 1 + 1 + 1, 0, none⟩)) :: t8 :: undef :: undef :: undef :: undef :: undef :: (.agg #[.int .i64 1, .string (bt [102]), .int .i64 0, .int .i64 0, .slice none 0 0, .slice none 0 0, .slice none 0 0, .slice none 0 0]) :: (.agg #[.int .i64 1, .string (bt [120]), .int .i64 0, .int .i64 0, .slice none 0 0, .slice none 0 0, .slice none 0 0, .slice none 0 0]) :: (.slice (some ⟨w.heap.size + 1 + 1, 0, none⟩) 2 2) :: (.agg #[.int .i64 4, .string ⟨#[]⟩, .int .i64 0, .int .i64 0, .slice none 0 0, .slice (some ⟨w.heap.size + 1 + 1, 0, none⟩) 2 2, .slice none 0 0, .slice none 0 0]) :: t0 :: t1 :: t2 :: t3 :: t4 :: t5 :: t6 :: t7 :: undef :: undef :: undef :: undef :: undef :: undef :: undef :: undef :: undef :: undef :: undef :: undef :: undef :: undef :: undef :: undef :: undef :: undef :: undef :: undef :: undef :: undef :: undef :: undef :: undef :: undef :: undef :: undef :: undef :: undef :: undef :: undef :: undef :: undef :: undef :: undef :: undef :: undef :: undef :: undef :: undef :: undef :: undef :: undef :: undef :: undef :: undef :: undef :: undef :: undef :: undef :: undef :: undef :: undef :: undef :: undef :: undef :: undef :: []), defers := [] } ∧ E2 W0 W (w.heap.size + 1 + 1) d t0 t1 t2 t3 t4 t5 t6 t7 t8) hmx
  · refine ⟨undef, undef, undef, undef, undef, undef, undef, undef, undef, rfl, by simp, (Below.refl _ _).drew, ?_, ?_, ?_, ?_, ?_, ?_, ?_, ?_, ?_, ?_, ?_⟩
    all_goals intro q
    all_goals simp at q
  · rintro d a W i ⟨t0, t1, t2, t3, t4, t5, t6, t7, t8, rfl, hE⟩ hi
    obtain ⟨hun, o, ho, hall⟩ := mem_ready.1 hi
    have hi10 : i < 10 := by simpa using (Array.getElem?_eq_some_iff.1 ho).1
    match i, hi10 with
    | 0, _ =>
      refine op_want rfl (by rfl) (fun K hK => ?_)
      replace hK := Lib.hid hK
      go_simp
      go_at_call 13
      refine (v_c [102] _).mono ?_
      rintro e w1 ⟨rfl, rfl⟩
      exact hK.out _ _ ⟨_, t1, t2, t3, t4, t5, t6, t7, t8, rfl, (hE.up (below_alloc' _ _)).s0 hun rfl⟩
    | 1, _ =>
      refine op_want rfl (by rfl) (fun K hK => ?_)
      replace hK := Lib.hid hK
      go_simp
      go_at_call 13
      refine (v_c [120] _).mono ?_
      rintro e w1 ⟨rfl, rfl⟩
      exact hK.out _ _ ⟨t0, _, t2, t3, t4, t5, t6, t7, t8, rfl, (hE.up (below_alloc' _ _)).s1 hun rfl⟩
    | 2, _ =>
      refine op_want rfl (by rfl) (fun K hK => ?_)
      replace hK := Lib.hid hK
      go_simp
      exact hK.out _ _ ⟨t0, t1, _, t3, t4, t5, t6, t7, t8, rfl, (hE.up (below_alloc' _ _)).s2 hun ⟨_, rfl, World.alloc_heap_new _ _⟩⟩
    | 3, _ =>
      have hx := hp_up (show Below W0.heap.size W0 W from hE.bel) HX.out
      have x0 := cell_of hx 0 _ rfl
      have x1 := cell_of hx 1 _ rfl
      have x2 := cell_of hx 2 _ rfl
      have x3 := cell_of hx 3 _ rfl
      have x4 := cell_of hx 4 _ rfl
      have x5 := cell_of hx 5 _ rfl
      have x6 := cell_of hx 6 _ rfl
      have x7 := cell_of hx 7 _ rfl
      refine op_want rfl (by rfl) (fun K hK => ?_)
      replace hK := Lib.hid hK
      go_simp
      exact hK.out _ _ ⟨t0, t1, t2, _, t4, t5, t6, t7, t8, rfl, hE.s3 hun rfl⟩
    | 4, _ =>
      have h3 := hE.e3 (come ho hall 3 (by kernel_rfl))
      unfold F3 at h3
      subst h3
      refine op_want rfl (by rfl) (fun K hK => ?_)
      replace hK := Lib.hid hK
      go_simp
      exact hK.out _ _ ⟨t0, t1, t2, _, _, t5, t6, t7, t8, rfl, (hE.up (below_alloc' _ _)).s4 hun ⟨_, rfl, World.alloc_heap_new _ _⟩⟩
    | 5, _ =>
      obtain ⟨gn, rfl, k2⟩ := hE.e2 (come ho hall 2 (by kernel_rfl))
      obtain ⟨gl, rfl, k4⟩ := hE.e4 (come ho hall 4 (by kernel_rfl))
      refine op_want rfl (by rfl) (fun K hK => ?_)
      replace hK := Lib.hid hK
      go_simp
      exact hK.out _ _ ⟨t0, t1, _, t3, _, _, t6, t7, t8, rfl, hE.s5 hun ⟨_, _, rfl, k2, k4⟩⟩
    | 6, _ =>
      have h0 := hE.e0 (come ho hall 0 (by kernel_rfl))
      have h1 := hE.e1 (come ho hall 1 (by kernel_rfl))
      unfold F0 at h0
      unfold F1 at h1
      subst h0 h1
      obtain ⟨gn, gl, rfl, k5⟩ := hE.e5 (come ho hall 5 (by kernel_rfl))
      refine op_want rfl (by rfl) (fun K hK => ?_)
      replace hK := Lib.hid hK
      go_simp
      exact hK.out _ _ ⟨_, _, t2, t3, t4, _, _, t7, t8, rfl, (hE.up (below_alloc' _ _)).s6 hun ⟨_, _, _, rfl, World.alloc_heap_new _ _, k5.up (below_alloc' _ _)⟩⟩
    | 7, _ =>
      obtain ⟨gs, gn, gl, rfl, k6⟩ := hE.e6 (come ho hall 6 (by kernel_rfl))
      refine op_want rfl (by rfl) (fun K hK => ?_)
      replace hK := Lib.hid hK
      go_simp
      exact hK.out _ _ ⟨t0, t1, t2, t3, t4, t5, _, _, t8, rfl, hE.s7 hun ⟨_, _, _, rfl, k6⟩⟩
    | 8, _ =>
      have h9 : d.getD 9 false = false := by
        cases hx : d.getD 9 false with
        | false => rfl
        | true => exact absurd (hE.ord hx) (by rw [getD_both hun]; decide)
      refine op_want rfl (by rfl) (fun K hK => ?_)
      replace hK := Lib.hid hK
      go_simp
      exact hK.out _ _ ⟨t0, t1, t2, t3, t4, t5, t6, t7, _, rfl, (hE.up (below_alloc' _ _)).s8 hun h9 ⟨_, rfl, hE.bel.size, World.alloc_heap_new _ _⟩⟩
    | 9, _ =>
      obtain ⟨g, rfl, hg, k8⟩ := hE.e8 (come ho hall 8 (by kernel_rfl)) (getD_both hun)
      obtain ⟨gs, gn, gl, rfl, k7⟩ := hE.e7 (come ho hall 7 (by kernel_rfl))
      have y0 := cell_of k8 0 _ rfl
      have z0 := frozen_of k8 0
      have y1 := cell_of k8 1 _ rfl
      have z1 := frozen_of k8 1
      have y2 := cell_of k8 2 _ rfl
      have z2 := frozen_of k8 2
      have y3 := cell_of k8 3 _ rfl
      have z3 := frozen_of k8 3
      have y4 := cell_of k8 4 _ rfl
      have z4 := frozen_of k8 4
      have y5 := cell_of k8 5 _ rfl
      have z5 := frozen_of k8 5
      have y6 := cell_of k8 6 _ rfl
      have z6 := frozen_of k8 6
      have y7 := cell_of k8 7 _ rfl
      have z7 := frozen_of k8 7
      refine op_want rfl (by rfl) (fun K hK => ?_)
      replace hK := Lib.hid hK
      go_simp
      have hs9 := app_set (gs := gs) k8
      exact hK.out _ _ ⟨t0, t1, t2, t3, t4, t5, t6, _, _, rfl, hE.s9 hun (come ho hall 8 (by kernel_rfl)) hg k8 k7 hs9.2 hs9.1⟩
  · rintro d a W ⟨t0, t1, t2, t3, t4, t5, t6, t7, t8, rfl, hE⟩ hr
    have hsz := hE.size
    have c0 := all_come hr (i := 0) rfl (by simp) (by omega)
    rw [Array.getD_eq_getD_getElem?] at c0
    have c1 := all_come hr (i := 1) rfl (by simp [c0]) (by omega)
    rw [Array.getD_eq_getD_getElem?] at c1
    have c2 := all_come hr (i := 2) rfl (by simp) (by omega)
    rw [Array.getD_eq_getD_getElem?] at c2
    have c3 := all_come hr (i := 3) rfl (by simp) (by omega)
    rw [Array.getD_eq_getD_getElem?] at c3
    have c4 := all_come hr (i := 4) rfl (by simp [c3]) (by omega)
    rw [Array.getD_eq_getD_getElem?] at c4
    have c5 := all_come hr (i := 5) rfl (by simp [c2, c4]) (by omega)
    rw [Array.getD_eq_getD_getElem?] at c5
    have c6 := all_come hr (i := 6) rfl (by simp [c0, c1, c5]) (by omega)
    rw [Array.getD_eq_getD_getElem?] at c6
    have c7 := all_come hr (i := 7) rfl (by simp [c6]) (by omega)
    rw [Array.getD_eq_getD_getElem?] at c7
    have c8 := all_come hr (i := 8) rfl (by simp) (by omega)
    rw [Array.getD_eq_getD_getElem?] at c8
    have c9 := all_come hr (i := 9) rfl (by simp [c0, c1, c2, c3, c4, c5, c6, c7, c8]) (by omega)
    obtain ⟨hb2, g, gs, gn, gl, rfl, kg, kr⟩ := hE.fin c9
    clear hE hr hsz c0 c1 c2 c3 c4 c5 c6 c7 c8 c9
    have HA0 := Lib.hid (show AwAt W (w.heap.size + 1 + 1 + 1) (w.heap.size + 1 + 1) g gs gn gl from ⟨hp_up hb2 HX.out, hp_up hb2 HF.out, kg, kr⟩)
    have HW0 := Lib.hid (HB0.out.trans (hb2.mono HB0.out.size))
    clear hb2 kg kr HX HF HB0
    have a0 := cell_of HA0.out.e 0 _ rfl
    have a1 := cell_of HA0.out.e 1 _ rfl
    have a2 := cell_of HA0.out.e 2 _ rfl
    have a3 := cell_of HA0.out.e 3 _ rfl
    have a4 := cell_of HA0.out.e 4 _ rfl
    have a5 := cell_of HA0.out.e 5 _ rfl
    have a6 := cell_of HA0.out.e 6 _ rfl
    have a7 := cell_of HA0.out.e 7 _ rfl
    go_wp2_with fail
    go_at_call 7
    refine (aw_uf HA0.out).mono ?_
    clear a0 a1 a2 a3 a4 a5 a6 a7
    rintro e w1 ⟨rfl, hb1⟩
    have HA1 := Lib.hid (HA0.out.up hb1)
    have HW1 := Lib.hid (HW0.out.trans (hb1.mono HW0.out.size))
    clear hb1
    have a0 := cell_of HA1.out.e 0 _ rfl
    have a1 := cell_of HA1.out.e 1 _ rfl
    have a2 := cell_of HA1.out.e 2 _ rfl
    have a3 := cell_of HA1.out.e 3 _ rfl
    have a4 := cell_of HA1.out.e 4 _ rfl
    have a5 := cell_of HA1.out.e 5 _ rfl
    have a6 := cell_of HA1.out.e 6 _ rfl
    have a7 := cell_of HA1.out.e 7 _ rfl
    go_wp2_with fail
    go_at_call 7
    refine (aw_uy HA1.out).mono ?_
    clear a0 a1 a2 a3 a4 a5 a6 a7
    rintro e w2 ⟨rfl, hb2⟩
    have HA2 := Lib.hid (HA1.out.up hb2)
    have HW2 := Lib.hid (HW1.out.trans (hb2.mono HW1.out.size))
    clear hb2 HA0 HA1 HW0 HW1
    go_wp2_with fail
    go_at_call 13
    refine (v_c [97] _).mono ?_
    rintro e w3 ⟨rfl, rfl⟩
    unfold varV exV varBox exBox
    go_wp2_with fail
    go_at_call 13
    refine (v_c [98] _).mono ?_
    rintro e w3 ⟨rfl, rfl⟩
    unfold varV exV varBox exBox
    go_wp2_with fail
    go_at_call 13
    refine (v_c [97] _).mono ?_
    rintro e w3 ⟨rfl, rfl⟩
    unfold varV exV varBox exBox
    go_wp2_with fail
    go_at_call 14
    have hbl : Below w2.heap.size w2 ((((w2.alloc (varBox [97])).alloc (varBox [98])).alloc (varBox [97])).alloc (.cells bnds 38)) := (((below_alloc' _ _).alloc (by simp) _).alloc (by simp <;> omega) _).alloc (by simp <;> omega) _
    refine (live_c ((((w2.alloc (varBox [97])).alloc (varBox [98])).alloc (varBox [97])).alloc (.cells bnds 38)) (w2.heap.size + 1 + 1 + 1) (hp_nw _ _ (by simp))).mono ?_
    rintro e w3 ⟨gv, cv, rfl, l0, l1, hc2, hcm, hb3⟩
    have hb23 := hbl.trans (hb3.mono hbl.size)
    have HA3 := Lib.hid (HA2.out.up hb23)
    have HW3 := Lib.hid (HW2.out.trans (hb23.mono HW2.out.size))
    have hgl : gv < w3.heap.size := cell_lt l0
    have HL := Lib.hid (And.intro l0 l1)
    clear hb23 hbl hb3 HA2 HW2 l0 l1
    have a0 := cell_of HA3.out.fx 0 _ rfl
    have a1 := cell_of HA3.out.fx 1 _ rfl
    have a2 := cell_of HA3.out.fx 2 _ rfl
    have a3 := cell_of HA3.out.fx 3 _ rfl
    have a4 := cell_of HA3.out.fx 4 _ rfl
    have a5 := cell_of HA3.out.fx 5 _ rfl
    have a6 := cell_of HA3.out.fx 6 _ rfl
    have a7 := cell_of HA3.out.fx 7 _ rfl
    go_wp2_with fail
    go_at_call 15
    refine (aw_of HA3.out).mono ?_
    clear a0 a1 a2 a3 a4 a5 a6 a7
    rintro e w4 ⟨rfl, hb4⟩
    have HA4 := Lib.hid (HA3.out.up hb4)
    have HW4 := Lib.hid (HW3.out.trans (hb4.mono HW3.out.size))
    have HL4 := Lib.hid (show w4.cell? ⟨gv, 0, none⟩ = some (.int .i64 0) ∧ w4.cell? ⟨gv, 1, none⟩ = some (.int .i64 1) from ⟨(hb4.cell (p := ⟨gv, 0, none⟩) hgl).trans HL.out.1, (hb4.cell (p := ⟨gv, 1, none⟩) hgl).trans HL.out.2⟩)
    have hgl4 := Nat.lt_of_lt_of_le hgl hb4.size
    clear hb4 hgl HA3 HW3 HL
    have a0 := cell_of HA4.out.e 0 _ rfl
    have a1 := cell_of HA4.out.e 1 _ rfl
    have a2 := cell_of HA4.out.e 2 _ rfl
    have a3 := cell_of HA4.out.e 3 _ rfl
    have a4 := cell_of HA4.out.e 4 _ rfl
    have a5 := cell_of HA4.out.e 5 _ rfl
    have a6 := cell_of HA4.out.e 6 _ rfl
    have a7 := cell_of HA4.out.e 7 _ rfl
    go_wp2_with fail
    go_at_call 15
    refine (aw_oe HA4.out).mono ?_
    clear a0 a1 a2 a3 a4 a5 a6 a7
    rintro e w5 ⟨rfl, hb5⟩
    have HW5 := Lib.hid (HW4.out.trans (hb5.mono HW4.out.size))
    have l0 := (hb5.cell (p := ⟨gv, 0, none⟩) hgl4).trans HL4.out.1
    have l1 := (hb5.cell (p := ⟨gv, 1, none⟩) hgl4).trans HL4.out.2
    clear hb5 hgl4 HA4 HW4 HL4
    go_wp2_with fail
    go_ret
    exact ⟨rfl, HW5.out⟩
end Go.Proofs.YtfcogjlojfcfkaaGreat
