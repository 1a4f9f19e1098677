/- The reference's layout: the contract of its token. No condition but bounds on what is open and laid, and that words and signs are told apart. -/
import Derived.Test.YtbjbmehkcfpahaaRfA
import Derived.Deep.DeepCutAuto
namespace Go.Proofs.Ytbjbmehkcfpahaa
open Go.RowKit Lx
attribute [local go_sem] bt_size bt_get bt_list bt_toList bt_drop bt_take
attribute [local go_sem ↓] Go.wp_at_zero Go.wp_at_succ

def boxTh (e : En) : Obj := .cells #[.string (bt (thS e)), .int .i64 (thC e)] 93
theorem th_newsA (w : World) (e : En) : ∀ j u, (thCells e)[j]? = some u → (w.alloc (boxTh e)).cell? ((⟨w.heap.size, 0, none⟩ : Addr).add j) = some u := World.news_of_block (heap_alloc_new w (boxTh e))
theorem th_newsD (w : World) (e : En) : ∀ j u, (thCells e)[j]? = some u → ((w.drew).alloc (boxTh e)).cell? ((⟨w.heap.size, 0, none⟩ : Addr).add j) = some u := World.news_of_block (heap_alloc_new w.drew (boxTh e))
theorem rt_newsD (w : World) (t : Rt) : ∀ j u, (rtCells t)[j]? = some u → ((w.drew).alloc (boxT t)).cell? ((⟨w.heap.size, 0, none⟩ : Addr).add j) = some u := World.news_of_block (heap_alloc_new w.drew (boxT t))
theorem frozen_alD (w : World) (o : Obj) {g i : Nat} (hg : g < w.heap.size) (h : w.frozen? ⟨g, i, none⟩ = false) : ((w.drew).alloc o).frozen? ⟨g, i, none⟩ = false :=
  (World.frozen?_alloc_past _ _ _ hg).trans h
theorem cell_alD (w : World) (o : Obj) {g i : Nat} {v : Value} (hg : g < w.heap.size) (h : w.cell? ⟨g, i, none⟩ = some v) : ((w.drew).alloc o).cell? ⟨g, i, none⟩ = some v :=
  (World.cell?_alloc_past _ _ _ hg).trans h
theorem frozen_alA (w : World) (o : Obj) {g i : Nat} (hg : g < w.heap.size) (h : w.frozen? ⟨g, i, none⟩ = false) : (w.alloc o).frozen? ⟨g, i, none⟩ = false :=
  (World.frozen?_alloc_past _ _ _ hg).trans h
theorem cell_alA (w : World) (o : Obj) {g i : Nat} {v : Value} (hg : g < w.heap.size) (h : w.cell? ⟨g, i, none⟩ = some v) : (w.alloc o).cell? ⟨g, i, none⟩ = some v :=
  (World.cell?_alloc_past _ _ _ hg).trans h
theorem below_D (w : World) (o : Obj) : Below w.heap.size w ((w.drew).alloc o) := ((Below.refl _ _).drew).alloc (Nat.le_refl _) _
theorem mk_txtR {x : List UInt8} (h : oneB mrkA x = true) : thS (.mk (mkOf x)) = x := by
  simp [oneB, mrkA] at h
  rcases h with rfl | rfl | rfl | rfl | rfl | rfl <;> rfl
theorem lineR_g (w : World) (s : St) (rs : List En) (out : List Rt) (t : Rt) (col : Int) (g : Nat) (hg : s.g = g) (hgood : GoodT t) (h : RAt w s rs out) (hn : rs.length + out.length ≤ 9000000) :
    Calls Try.prog 41 #[.pointer (some ⟨g, 0, none⟩), tokV t, .int .i64 col] w fun e w' => RLine s w out t (lnL t col (rs.length + 1) rs) e w' := by
  subst hg; exact lineR_any w s rs out t col hgood h hn
theorem RBad.trans {s s1 : St} {w w1 w2 : World} {t : Rt} (h : Step s s1 w w1) (k : RBad s1 w1 t w2) : RBad s w t w2 := by
  obtain ⟨s', a, b, hb, hs⟩ := k
  rw [h.g] at hb
  exact ⟨s', a, b, hb, h.trans hs⟩

set_option maxHeartbeats 8000000 in
set_option maxRecDepth 100000 in
theorem tokenR_op (w : World) (s : St) (rs : List En) (out : List Rt) (t a : Rt) (first op : Bool) (hop : opnB a = op) (hgt : GoodT t) (hga : GoodT a) (h : RAt w s rs out) (hn : rs.length + out.length ≤ 8000000) :
    Calls Try.prog 37 #[.pointer (some ⟨s.g, 0, none⟩), tokV t, tokV a, .bool first] w fun e w' => RLine s w out t (tokL t first op rs) e w' := by
  obtain ⟨i0, hi, hz0, hz1, hz2⟩ := info_parts info_rt
  obtain ⟨i1, hi1, hy0, hy1, hy2⟩ := info_parts info_th
  have hg0 := h.g_lt
  have hne0 : w.heap.size ≠ s.g := by omega
  have hne1 : s.g ≠ w.heap.size := by omega
  have HL0 := Lib.hid ((h.below (below_alloc w (boxT t))).below (below_alloc _ (boxT a)))
  have HS0 := Lib.hid ((Step.of_below s (below_alloc w (boxT t))).alloc (boxT a))
  have HX0 := Lib.hid ((BX.newR h t).below (below_alloc _ (boxT a)))
  have HGo := Lib.hid (good_opn hga)
  have HGt := Lib.hid hgt
  clear h hgt hga
  unfold tokV
  go_enter Try.func37, Try.ntmps37
  go_wp2_with fail
  refine (show Calls Try.prog 39 #[.agg #[.int .i64 a.kind, .string (bt a.text), .int .i64 a.n, .int .i64 a.line, .int .i64 a.col]] ((w.alloc (boxT t)).alloc (boxT a)) _ from wordR_any a _).mono ?_
  rintro e w1 ⟨rfl, hb1⟩
  have HL1 := Lib.hid (HL0.out.below hb1)
  have HS1 := Lib.hid (HS0.out.trans (.of_below _ hb1))
  have HX1 := Lib.hid (HX0.out.below hb1)
  clear hb1 HL0 HS0 HX0
  go_wp2_with fail
  refine (opener_any (wdL a) w1).mono ?_
  rintro e w2 ⟨rfl, rfl⟩
  rw [HGo.out, hop]
  clear hop HGo
  go_upto_if 15 with fail
  go_cut [9] (fun p wx => (op && curB t) = false ∧ p = .bool (begL t op rs).1 ∧ ∃ s1, RAt wx s1 (begL t op rs).2.1 (out ++ (begL t op rs).2.2) ∧ Step s s1 w wx ∧ BX s1 wx w.heap.size t)
  case first =>
    cases op with
    | false =>
      go_wp2_with fail
      go_meet
      exact ⟨rfl, rfl, s, by simpa [begL] using HL1.out, HS1.out, HX1.out⟩
    | true =>
      obtain ⟨x0, x1, x2, x3, x4⟩ := HX1.out.at_
      have hbw := HX1.out.lt
      go_wp2_with fail
      refine (show Calls Try.prog 39 #[.agg #[.int .i64 t.kind, .string (bt t.text), .int .i64 t.n, .int .i64 t.line, .int .i64 t.col]] w1 _ from wordR_any t _).mono ?_
      rintro e w3 ⟨rfl, hb3⟩
      have HL3 := Lib.hid (HL1.out.below hb3)
      have HS3 := Lib.hid (HS1.out.trans (.of_below _ hb3))
      have HX3 := Lib.hid (HX1.out.below hb3)
      clear hb3 HL1 HS1 HX1 x0 x1 x2 x3 x4 hbw
      have hgW : s.g < w3.heap.size := HL3.out.g_lt
      have c0 : w3.cell? ⟨s.g, 0, none⟩ = some s.vo := HL3.out.cells.1
      have c1 : w3.cell? ⟨s.g, 1, none⟩ = some s.ve := HL3.out.cells.2
      have f0 : w3.frozen? ⟨s.g, 0, none⟩ = false := HL3.out.frozen 0
      have f1 : w3.frozen? ⟨s.g, 1, none⟩ = false := HL3.out.frozen 1
      have hwq := good_cur HGt.out
      cases hcur : curB t with
      | true =>
        rw [hcur] at hwq
        have HTok := Lib.hid (show tokL t first true rs = some (.brc :: rs, [t]) by rw [tokL, if_pos (by rw [hcur]; rfl)])
        generalize wdL t = y at *
        have HGO := Lib.hid (show some s.g ≠ s.ve.ownBlock from fun e => by have h : s.g + 1 ≤ s.g := (HL3.out.en.lt _ e.symm).1; omega)
        go_wp2_with (at_builtin; refine wpList_append_lies _ rfl _ _ _ rfl (s.g + 1) 93 i1 _ 2 24 under_ths hi1 hy0 hy1 hy2 rfl (by decide) s.ve rs.length (thsCells rs) rfl (HL3.out.en.alloc _) ⟨w3.heap.size, 0, none⟩ 1 1 (thCells .brc) rfl rfl (th_newsA w3 .brc) (th_one _) (by omega) (by simp [maxLen]; omega) (by omega) (by simp; omega) _ rfl ?_; intro gg capg wg hown hgrow hat hlt; have F2 : wg.frozen? ⟨s.g, 1, none⟩ = false := (hgrow.frozen_far ⟨s.g, 1, none⟩ (by simp; omega) HGO.out).trans (frozen_alA w3 _ hgW f1); have C2 : wg.cell? ⟨s.g, 1, none⟩ = some s.ve := (hgrow.cell_far ⟨s.g, 1, none⟩ (by simp; omega) HGO.out).trans (cell_alA w3 _ hgW c1); have HOwn := Lib.hid hown; have HGrow := Lib.hid hgrow; have HAt := Lib.hid hat; clear hown hgrow hat)
        obtain ⟨s7, hl7, hs7⟩ := rstk_done (t := .brc) HL3.out (below_alloc w3 (boxTh .brc)) HOwn.out HGrow.out HAt.out
        have HL7 := Lib.hid hl7
        have HS7 := Lib.hid (HS3.out.trans hs7)
        have HX7 := Lib.hid (HX3.out.step hs7)
        clear hl7 hs7
        go_upto_region 5 with fail
        clear F2 C2 HOwn HGrow HAt c0 c1 f0 f1 hgW hlt HGO
        revert HL7 HS7 HX7
        generalize World.setCell wg _ _ = W
        intro HL7 HS7 HX7
        obtain ⟨g7, ve7, vr7, vo7⟩ := s7
        obtain rfl : g7 = s.g := HS7.out.g
        have hgW : s.g < W.heap.size := HL7.out.g_lt
        have c0 : W.cell? ⟨s.g, 0, none⟩ = some vo7 := HL7.out.cells.1
        have c1 : W.cell? ⟨s.g, 1, none⟩ = some ve7 := HL7.out.cells.2
        have f0 : W.frozen? ⟨s.g, 0, none⟩ = false := HL7.out.frozen 0
        have f1 : W.frozen? ⟨s.g, 1, none⟩ = false := HL7.out.frozen 1
        obtain ⟨x0, x1, x2, x3, x4⟩ := HX7.out.at_
        have hbw := HX7.out.lt
        have HGO := Lib.hid (show some s.g ≠ vo7.ownBlock from fun e => by have h : s.g + 1 ≤ s.g := (HL7.out.ou.lt _ e.symm).1; omega)
        go_region_law ((refine step_append_lies _ (by rfl) _ _ _ (by rfl) (s.g + 1) 33 i0 _ 5 48 under_rts hi hz0 hz1 hz2 rfl (by omega) vo7 out.length (rtsCells out) (by rfl) (by exact ((HL7.out.ou).drew).alloc _) ⟨W.heap.size, 0, none⟩ 1 1 (rtCells t) (by rfl) (by rfl) (by exact rt_newsD W t) (rt_one t) (by omega) (by simp [maxLen]; omega) (by omega) (by simp; omega) _ rfl ?_; intro gg capg wg hown hgrow hat hlt; have F2 : wg.frozen? ⟨s.g, 0, none⟩ = false := (hgrow.frozen_far ⟨s.g, 0, none⟩ (by simp; omega) HGO.out).trans (frozen_alD W _ hgW f0); have C2 : wg.cell? ⟨s.g, 0, none⟩ = some vo7 := (hgrow.cell_far ⟨s.g, 0, none⟩ (by simp; omega) HGO.out).trans (cell_alD W _ hgW c0); have HOwn := Lib.hid hown; have HGrow := Lib.hid hgrow; have HAt := Lib.hid hat; clear hown hgrow hat))
        all_goals
          go_wp2
          go_ret
          unfold RLine
          rw [HTok.out]
          obtain ⟨s9, _, hl9, hs9⟩ := rout_done HL7.out (below_D W _) HOwn.out HGrow.out HAt.out
          exact ⟨rfl, s9, hl9, HS7.out.trans hs9⟩
      | false =>
        rw [hcur] at hwq
        have HCur := Lib.hid hcur
        clear hcur
        generalize wdL t = y at *
        go_wp2_with fail
        refine (blockR_g w3 s rs out s.g rfl HL3.out (by omega)).mono ?_
        rintro e w4 ⟨rfl, rfl⟩
        go_upto_if 42 with fail
        go_cut [10, 11] (fun m bb wx => m = .int .i64 ((curC rs).getD 0) ∧ (∃ x, bb = .int .i64 x) ∧ w3 = wx)
        case first =>
          cases hc : curC rs with
          | none =>
            rw [cur_none rs hc]
            have HC := Lib.hid hc
            clear hc
            go_wp2_with fail
            go_meet
            exact ⟨by rw [HC.out]; rfl, ⟨_, rfl⟩, rfl⟩
          | some c =>
            obtain ⟨ab, h1, h2, _, _⟩ := cur_split rs c hc
            have hL := HL3.out
            rw [h1] at hL
            obtain ⟨q, cap, hv, hcap, hm, hq, _, k1⟩ := rent_cells hL
            have k1 : w3.cell? ⟨q, (curR rs).length * 2 + 1, none⟩ = some (.int .i64 c) := k1
            rw [hv] at c1
            rw [h2]
            have hab : ab.length + (curR rs).length ≤ 9000000 := by have := congrArg List.length h1; simp at this; omega
            have HC := Lib.hid hc
            clear h1 h2 hL hv hc
            generalize (curR rs).length = n at *
            go_wp2_with fail
            go_meet
            exact ⟨by rw [HC.out]; rfl, ⟨_, rfl⟩, rfl⟩
        case rest =>
          obtain ⟨rfl, ⟨bb, rfl⟩, rfl⟩ := hcut
          obtain ⟨m, hm⟩ : ∃ m, m = (curC rs).getD 0 := ⟨_, rfl⟩
          rw [← hm]
          have HM := Lib.hid hm
          clear hm
          obtain ⟨x0, x1, x2, x3, x4⟩ := HX3.out.at_
          have hbw := HX3.out.lt
          go_wp2_with fail
          refine (layR_g w3 s rs out [123] t s.g rfl HL3.out (by omega)).mono ?_
          rintro e w5 ⟨rfl, ⟨g5, ve5, vr5, vo5⟩, hv5, hl5, hs5⟩
          clear hv5
          obtain rfl : g5 = s.g := hs5.g
          have HL5 := Lib.hid hl5
          have HS5 := Lib.hid (HS3.out.trans hs5)
          have HX5 := Lib.hid (HX3.out.step hs5)
          clear hl5 hs5 x0 x1 x2 x3 x4 hbw c0 c1 f0 f1 hgW
          have hgW : s.g < w5.heap.size := HL5.out.g_lt
          have c0 : w5.cell? ⟨s.g, 0, none⟩ = some vo5 := HL5.out.cells.1
          have c1 : w5.cell? ⟨s.g, 1, none⟩ = some ve5 := HL5.out.cells.2
          have f0 : w5.frozen? ⟨s.g, 0, none⟩ = false := HL5.out.frozen 0
          have f1 : w5.frozen? ⟨s.g, 1, none⟩ = false := HL5.out.frozen 1
          obtain ⟨x0, x1, x2, x3, x4⟩ := HX5.out.at_
          have hbw := HX5.out.lt
          by_cases hlt : m < t.col
          · have HBg := Lib.hid (show begL t true rs = (true, .blk t.col :: rs, [insT [123] t]) by rw [begL, if_pos rfl, beginL, if_pos (by rw [← HM.out]; exact hlt)])
            go_wp2
            have HGO := Lib.hid (show some s.g ≠ ve5.ownBlock from fun e => by have h : s.g + 1 ≤ s.g := (HL5.out.en.lt _ e.symm).1; omega)
            go_region_law ((refine step_append_lies _ (by rfl) _ _ _ (by rfl) (s.g + 1) 93 i1 _ 2 24 under_ths hi1 hy0 hy1 hy2 rfl (by omega) ve5 rs.length (thsCells rs) (by rfl) (by exact ((HL5.out.en).drew).alloc _) ⟨w5.heap.size, 0, none⟩ 1 1 (thCells (.blk t.col)) (by rfl) (by rfl) (by exact th_newsD w5 (.blk t.col)) (th_one _) (by omega) (by simp [maxLen]; omega) (by omega) (by simp; omega) _ rfl ?_; intro gg capg wg hown hgrow hat hlt; have F2 : wg.frozen? ⟨s.g, 1, none⟩ = false := (hgrow.frozen_far ⟨s.g, 1, none⟩ (by simp; omega) HGO.out).trans (frozen_alD w5 _ hgW f1); have C2 : wg.cell? ⟨s.g, 1, none⟩ = some ve5 := (hgrow.cell_far ⟨s.g, 1, none⟩ (by simp; omega) HGO.out).trans (cell_alD w5 _ hgW c1); have HOwn := Lib.hid hown; have HGrow := Lib.hid hgrow; have HAt := Lib.hid hat; clear hown hgrow hat))
            all_goals
              go_wp2_with fail
              go_meet
              obtain ⟨s9, hl9, hs9⟩ := rstk_done (t := .blk t.col) HL5.out (below_D w5 _) HOwn.out HGrow.out HAt.out
              rw [HBg.out]
              exact ⟨by rw [HCur.out]; rfl, rfl, s9, hl9, HS5.out.trans hs9, HX5.out.step hs9⟩
          · have HBg := Lib.hid (show begL t true rs = (false, rs, [insT [123] t, insT [125] t]) by rw [begL, if_pos rfl, beginL, if_neg (by rw [← HM.out]; exact hlt)])
            go_wp2_with fail
            refine (layR_g w5 ⟨s.g, ve5, vr5, vo5⟩ rs (out ++ [insT [123] t]) [125] t s.g rfl HL5.out (by simp; omega)).mono ?_
            rintro e w6 ⟨rfl, s6, hv6, hl6, hs6⟩
            clear hv6
            have HL6 := Lib.hid hl6
            have HS6 := Lib.hid (HS5.out.trans hs6)
            have HX6 := Lib.hid (HX5.out.step hs6)
            clear hl6 hs6 x0 x1 x2 x3 x4
            go_wp2_with fail
            go_meet
            rw [HBg.out]
            exact ⟨by rw [HCur.out]; rfl, rfl, s6, by simpa using HL6.out, HS6.out, HX6.out⟩
  case rest =>
    clear HL1 HS1 HX1
    obtain ⟨hcc, hp9, s1, hl1, hs1, hx1⟩ := hcut
    subst hp9
    have hbl := beg_len t op rs
    have HEq := Lib.hid (tokL_eq t first op rs hcc)
    obtain ⟨b1, r1, o1, hbe⟩ : ∃ b1 r1 o1, begL t op rs = (b1, r1, o1) := ⟨_, _, _, rfl⟩
    rw [hbe] at hl1 hbl HEq
    rw [hbe]
    simp only at hl1 hbl HEq ⊢
    obtain ⟨g1, ve, vr, vo⟩ := s1
    obtain rfl : g1 = s.g := hs1.g
    have HL1 := Lib.hid hl1
    have HS1 := Lib.hid hs1
    have HX1 := Lib.hid hx1
    clear hl1 hs1 hx1 hbe hcc
    go_upto_region 16 with fail
    go_cut [85] (fun c wx => (∃ r2 o2 s2, secL t first (b1, r1, o1) = some (r2, o2) ∧ c = .bool false ∧ RAt wx s2 r2 (out ++ o1 ++ o2) ∧ Step s s2 w wx ∧ BX s2 wx w.heap.size t) ∨ (secL t first (b1, r1, o1) = none ∧ c = .bool true ∧ RBad s w t wx))
    case first =>
      cases first with
      | false =>
        go_wp2_with fail
        go_meet
        exact .inl ⟨r1, [], _, rfl, rfl, by simpa using HL1.out, HS1.out, HX1.out⟩
      | true =>
        cases b1 with
        | true =>
          go_wp2_with fail
          go_meet
          exact .inl ⟨r1, [], _, rfl, rfl, by simpa using HL1.out, HS1.out, HX1.out⟩
        | false =>
          have HSec := Lib.hid (show secL t true (false, r1, o1) = lnL t t.col (r1.length + 1) r1 from rfl)
          obtain ⟨x0, x1, x2, x3, x4⟩ := HX1.out.at_
          have hbw := HX1.out.lt
          go_wp2_with fail
          refine (lineR_g wc ⟨s.g, ve, vr, vo⟩ r1 (out ++ o1) t t.col s.g rfl HGt.out HL1.out (by simp at hbl ⊢; omega)).mono ?_
          rintro e w2 hp
          unfold RLine at hp
          cases hln : lnL t t.col (r1.length + 1) r1 with
          | none =>
            rw [hln] at hp HSec
            obtain ⟨rfl, hbad⟩ := hp
            have HBad := Lib.hid (RBad.trans HS1.out hbad)
            clear hbad x0 x1 x2 x3 x4
            go_wp2_with fail
            go_meet
            exact .inr ⟨HSec.out, rfl, HBad.out⟩
          | some y =>
            obtain ⟨r2, o2⟩ := y
            rw [hln] at hp HSec
            obtain ⟨rfl, s2, hl2, hs2⟩ := hp
            have HL2 := Lib.hid hl2
            have HS2 := Lib.hid (HS1.out.trans hs2)
            have HX2 := Lib.hid (HX1.out.step hs2)
            clear hl2 hs2 x0 x1 x2 x3 x4
            go_wp2_with fail
            go_meet
            exact .inl ⟨r2, o2, s2, HSec.out, rfl, HL2.out, HS2.out, HX2.out⟩
    case rest =>
      clear HL1 HS1 HX1
      rcases hcut with ⟨r2, o2, ⟨g2, ve2, vr2, vo2⟩, hsec, hq, hl2, hs2, hx2⟩ | ⟨hsec, hq, hbad⟩
      · subst hq
        have hsl := sec_len hsec
        simp only at hsl
        obtain rfl : g2 = s.g := hs2.g
        have HSec := Lib.hid hsec
        have HL2 := Lib.hid hl2
        have HS2 := Lib.hid hs2
        have HX2 := Lib.hid hx2
        have hel := end_len t r2
        clear hsec hl2 hs2 hx2
        obtain ⟨x0, x1, x2, x3, x4⟩ := HX2.out.at_
        have hbw := HX2.out.lt
        go_wp2_with fail
        refine (closesR_any wc ⟨s.g, ve2, vr2, vo2⟩ r2 (out ++ o1 ++ o2) t s.g rfl HGt.out HL2.out (by simp at hbl ⊢; omega)).mono ?_
        rintro e w3 ⟨rfl, ⟨g3, ve3, vr3, vo3⟩, hl3, hs3⟩
        obtain rfl : g3 = s.g := hs3.g
        have HL3 := Lib.hid hl3
        have HS3 := Lib.hid (HS2.out.trans hs3)
        have HX3 := Lib.hid (HX2.out.step hs3)
        clear hl3 hs3 x0 x1 x2 x3 x4 hbw HL2 HS2 HX2
        obtain ⟨r3, hr3⟩ : ∃ r3, r3 = (endL t r2).1 := ⟨_, rfl⟩
        obtain ⟨O3, hO3⟩ : ∃ O3, O3 = out ++ o1 ++ o2 ++ (endL t r2).2 := ⟨_, rfl⟩
        rw [← hr3, ← hO3] at HL3
        have hb3 : r3.length + O3.length ≤ 8000004 := by rw [hr3, hO3]; simp; omega
        have HR3 := Lib.hid hr3
        have HO3 := Lib.hid hO3
        clear hr3 hO3 hel hsl hbl
        go_upto_region 19 with fail
        go_cut [] (fun wx => ∃ s9, RAt wx s9 r3 (O3 ++ [t]) ∧ Step s s9 w wx ∧ BX s9 wx w.heap.size t)
        case first =>
          have hgW : s.g < w3.heap.size := HL3.out.g_lt
          have c0 : w3.cell? ⟨s.g, 0, none⟩ = some vo3 := HL3.out.cells.1
          have c1 : w3.cell? ⟨s.g, 1, none⟩ = some ve3 := HL3.out.cells.2
          have f0 : w3.frozen? ⟨s.g, 0, none⟩ = false := HL3.out.frozen 0
          have f1 : w3.frozen? ⟨s.g, 1, none⟩ = false := HL3.out.frozen 1
          obtain ⟨x0, x1, x2, x3, x4⟩ := HX3.out.at_
          have hbw := HX3.out.lt
          have HGO := Lib.hid (show some s.g ≠ vo3.ownBlock from fun e => by have h : s.g + 1 ≤ s.g := (HL3.out.ou.lt _ e.symm).1; omega)
          go_region_law ((refine step_append_lies _ (by rfl) _ _ _ (by rfl) (s.g + 1) 33 i0 _ 5 48 under_rts hi hz0 hz1 hz2 rfl (by omega) vo3 O3.length (rtsCells O3) (by rfl) (by exact ((HL3.out.ou).drew).alloc _) ⟨w3.heap.size, 0, none⟩ 1 1 (rtCells t) (by rfl) (by rfl) (by exact rt_newsD w3 t) (rt_one t) (by omega) (by simp [maxLen]; omega) (by omega) (by simp; omega) _ rfl ?_; intro gg capg wg hown hgrow hat hlt; have F2 : wg.frozen? ⟨s.g, 0, none⟩ = false := (hgrow.frozen_far ⟨s.g, 0, none⟩ (by simp; omega) HGO.out).trans (frozen_alD w3 _ hgW f0); have C2 : wg.cell? ⟨s.g, 0, none⟩ = some vo3 := (hgrow.cell_far ⟨s.g, 0, none⟩ (by simp; omega) HGO.out).trans (cell_alD w3 _ hgW c0); have HOwn := Lib.hid hown; have HGrow := Lib.hid hgrow; have HAt := Lib.hid hat; clear hown hgrow hat))
          all_goals
            go_wp2_with fail
            go_meet
            obtain ⟨s9, _, hl9, hs9⟩ := rout_done HL3.out (below_D w3 _) HOwn.out HGrow.out HAt.out
            exact ⟨s9, hl9, HS3.out.trans hs9, HX3.out.step hs9⟩
        case rest =>
          clear HL3 HS3 HX3
          obtain ⟨⟨g9, ve9, vr9, vo9⟩, hl9, hs9, hx9⟩ := hcut
          obtain rfl : g9 = s.g := hs9.g
          have HL9 := Lib.hid hl9
          have HS9 := Lib.hid hs9
          have HX9 := Lib.hid hx9
          clear hl9 hs9 hx9
          obtain ⟨x0, x1, x2, x3, x4⟩ := HX9.out.at_
          have hbw := HX9.out.lt
          go_wp2_with fail
          refine (show Calls Try.prog 39 #[.agg #[.int .i64 t.kind, .string (bt t.text), .int .i64 t.n, .int .i64 t.line, .int .i64 t.col]] wc _ from wordR_any t _).mono ?_
          rintro e w10 ⟨rfl, hb10⟩
          have HLa := Lib.hid (HL9.out.below hb10)
          have HSa := Lib.hid (HS9.out.trans (.of_below _ hb10))
          have HXa := Lib.hid (HX9.out.below hb10)
          clear hb10 HL9 HS9 HX9 x0 x1 x2 x3 x4 hbw
          have hmq := good_mrk HGt.out
          obtain ⟨y, hy⟩ : ∃ y, y = wdL t := ⟨_, rfl⟩
          have HWd := Lib.hid (show mrkB t = true → y = t.text from fun h => by rw [hy]; exact wd_of (.inr (by rw [good_mrk HGt.out]; exact h)))
          rw [← hy] at hmq
          rw [← hy]
          clear hy
          go_upto_region 21 with fail
          go_cut [122] (fun c wx => c = .bool (mrkB t) ∧ w10 = wx)
          case first =>
            simp only [oneB, mrkA, List.contains_cons, List.contains_nil, Bool.or_false] at hmq
            cases m1 : (y == [40]) with
            | true =>
              simp only [m1, Bool.true_or] at hmq
              have HM := Lib.hid hmq
              clear hmq
              go_wp2_with fail
              go_meet
              exact ⟨by rw [← HM.out], rfl⟩
            | false =>
              cases m2 : (y == [91]) with
              | true =>
                simp only [m1, m2, Bool.or_true, Bool.true_or] at hmq
                have HM := Lib.hid hmq
                clear hmq
                go_wp2_with fail
                go_meet
                exact ⟨by rw [← HM.out], rfl⟩
              | false =>
                cases m3 : (y == [123]) with
                | true =>
                  simp only [m1, m2, m3, Bool.or_true, Bool.true_or] at hmq
                  have HM := Lib.hid hmq
                  clear hmq
                  go_wp2_with fail
                  go_meet
                  exact ⟨by rw [← HM.out], rfl⟩
                | false =>
                  cases m4 : (y == [105, 102]) with
                  | true =>
                    simp only [m1, m2, m3, m4, Bool.or_true, Bool.true_or] at hmq
                    have HM := Lib.hid hmq
                    clear hmq
                    go_wp2_with fail
                    go_meet
                    exact ⟨by rw [← HM.out], rfl⟩
                  | false =>
                    cases m5 : (y == [99, 97, 115, 101]) with
                    | true =>
                      simp only [m1, m2, m3, m4, m5, Bool.or_true, Bool.true_or] at hmq
                      have HM := Lib.hid hmq
                      clear hmq
                      go_wp2_with fail
                      go_meet
                      exact ⟨by rw [← HM.out], rfl⟩
                    | false =>
                      cases m6 : (y == [108, 101, 116]) with
                      | true =>
                        simp only [m1, m2, m3, m4, m5, m6, Bool.or_true] at hmq
                        have HM := Lib.hid hmq
                        clear hmq
                        go_wp2_with fail
                        go_meet
                        exact ⟨by rw [← HM.out], rfl⟩
                      | false =>
                        simp only [m1, m2, m3, m4, m5, m6, Bool.or_false] at hmq
                        have HM := Lib.hid hmq
                        clear hmq
                        go_wp2_with fail
                        go_meet
                        exact ⟨by rw [← HM.out], rfl⟩
          case rest =>
            obtain ⟨rfl, rfl⟩ := hcut
            cases hmk : mrkB t with
            | false =>
              have HMk := Lib.hid (show mrkSt t r3 = r3 by rw [mrkSt, hmk]; rfl)
              go_wp2
              go_ret
              unfold RLine
              rw [HEq.out, HSec.out]
              refine ⟨rfl, _, ?_, HSa.out⟩
              rw [← HR3.out, HMk.out]
              have := HLa.out
              rw [HO3.out] at this
              simpa using this
            | true =>
              have HMk := Lib.hid (show mrkSt t r3 = .mk (mkOf t.text) :: r3 by rw [mrkSt, hmk]; rfl)
              have hyt := HWd.out hmk
              have hys : y = thS (.mk (mkOf t.text)) := by
                rw [← hyt]
                exact (mk_txtR (by rw [hmq]; exact hmk)).symm
              generalize mkOf t.text = mk at *
              clear hyt hmq HWd
              subst hys
              have hgW : s.g < w10.heap.size := HLa.out.g_lt
              have c0 : w10.cell? ⟨s.g, 0, none⟩ = some vo9 := HLa.out.cells.1
              have c1 : w10.cell? ⟨s.g, 1, none⟩ = some ve9 := HLa.out.cells.2
              have f0 : w10.frozen? ⟨s.g, 0, none⟩ = false := HLa.out.frozen 0
              have f1 : w10.frozen? ⟨s.g, 1, none⟩ = false := HLa.out.frozen 1
              have HGO := Lib.hid (show some s.g ≠ ve9.ownBlock from fun e => by have h : s.g + 1 ≤ s.g := (HLa.out.en.lt _ e.symm).1; omega)
              go_wp2_with (at_builtin; refine wpList_append_lies _ rfl _ _ _ rfl (s.g + 1) 93 i1 _ 2 24 under_ths hi1 hy0 hy1 hy2 rfl (by decide) ve9 r3.length (thsCells r3) rfl (HLa.out.en.alloc _) ⟨w10.heap.size, 0, none⟩ 1 1 (thCells (.mk mk)) rfl rfl (th_newsA w10 (.mk mk)) (th_one _) (by omega) (by simp [maxLen]; omega) (by omega) (by simp; omega) _ rfl ?_; intro gg capg wg hown hgrow hat hlt; have F2 : wg.frozen? ⟨s.g, 1, none⟩ = false := (hgrow.frozen_far ⟨s.g, 1, none⟩ (by simp; omega) HGO.out).trans (frozen_alA w10 _ hgW f1); have C2 : wg.cell? ⟨s.g, 1, none⟩ = some ve9 := (hgrow.cell_far ⟨s.g, 1, none⟩ (by simp; omega) HGO.out).trans (cell_alA w10 _ hgW c1); have HOwn := Lib.hid hown; have HGrow := Lib.hid hgrow; have HAt := Lib.hid hat; clear hown hgrow hat)
              obtain ⟨s7, hl7, hs7⟩ := rstk_done (t := (.mk mk)) HLa.out (below_alloc w10 (boxTh (.mk mk))) HOwn.out HGrow.out HAt.out
              have HL7 := Lib.hid hl7
              have HS7 := Lib.hid (HSa.out.trans hs7)
              have HX7 := Lib.hid (HXa.out.step hs7)
              clear hl7 hs7
              go_wp2
              go_ret
              unfold RLine
              rw [HEq.out, HSec.out]
              refine ⟨rfl, s7, ?_, HS7.out⟩
              rw [← HR3.out, HMk.out]
              have := HL7.out
              rw [HO3.out] at this
              simpa using this
      · subst hq
        have HSec := Lib.hid hsec
        have HBad := Lib.hid hbad
        clear hsec hbad
        go_wp2
        go_ret
        unfold RLine
        rw [HEq.out, HSec.out]
        exact ⟨rfl, HBad.out⟩

theorem tokenR_any (w : World) (s : St) (rs : List En) (out : List Rt) (t a : Rt) (first : Bool) (g : Nat) (hg : s.g = g) (hgt : GoodT t) (hga : GoodT a) (h : RAt w s rs out) (hn : rs.length + out.length ≤ 8000000) :
    Calls Try.prog 37 #[.pointer (some ⟨g, 0, none⟩), tokV t, tokV a, .bool first] w fun e w' => RLine s w out t (tokL t first (opnB a) rs) e w' := by
  subst hg; exact tokenR_op w s rs out t a first (opnB a) rfl hgt hga h hn
end Go.Proofs.Ytbjbmehkcfpahaa
