/- The contract of the reference's Uses: Lams. A bound on how many expressions there are. -/
import Derived.Test.YtnbbbfjjknkioaaRUsesD
namespace Go.Proofs.Ytnbbbfjjknkioaa
open Go.RowKit Ex0
attribute [local go_sem] bt_size bt_list bt_toList

set_option maxHeartbeats 4000000 in
set_option maxRecDepth 100000 in
theorem ruses_lam2 (n : Nat) (ih : RUsesC n) (k : Int) (s : List UInt8) (nn op : Int) (vn va vb vc : Value) (ns : List (List UInt8)) (a b c : Fx) (x : List UInt8) (w : World) (hn : (parts a b c).count < n + 1) (hb : a.wt + b.wt + c.wt + nsWt ns ≤ 1048576)
    (hv : ExV (Old w.heap.size) w vn va vb vc ns a b c) (h1 : (k == 1) = false) (h3 : (k == 3) = true) (hm : ¬ x ∈ ns) : Calls Try.prog 8 #[exV k s nn op vn va vb vc, .string (bt x)] w fun e w' => e = .returned (.tuple #[.int .i64 (usesE x k s ns a b c).1, .bool (usesE x k s ns a b c).2]) ∧ Below w.heap.size w w' := by
  obtain ⟨an, cn, rfl⟩ := hv.ns.slice
  obtain ⟨aa, ca, rfl⟩ := hv.a.slice
  obtain ⟨ab, cb, rfl⟩ := hv.b.slice
  obtain ⟨ac, cc, rfl⟩ := hv.c.slice
  have HV := Lib.hid hv
  have hlen : a.len + b.len + c.len ≤ 1048576 := by have := a.len_le; have := b.len_le; have := c.len_le; have := a.count_wt; have := b.count_wt; have := c.count_wt; omega
  clear hv
  unfold exV
  have hnl : ns.length ≤ 1048576 := by have := nsWt_le ns; omega
  have hd : decide (x ∈ ns) = false := decide_eq_false hm
  have hk : k = 3 := by simpa using h3
  have HK5 := Lib.hid (show (k == 5) = false by simp [hk])
  have k5 := HK5.out
  have h3x : ((k == 3) && decide (x ∈ ns)) = false := by rw [hd]; simp
  clear hk hm
  go_enter Try.func8, Try.ntmps8
  go_upto_block 0 with ((go_at_call 16; refine (has_any _ ns x _ hnl (HV.out.ns.keep (keep_up (below_alloc' _ _) (Nat.le_refl _)))).mono ?_; rintro e w' ⟨rfl, rfl⟩))
  go_cut [6] (fun s6 wx => ∃ i : Int, s6 = .int .i64 i ∧ ((k == 5) && bindsX x b) = false ∧ Below (w.heap.size + 1) (w.alloc (exBox k s nn op (.slice an ns.length cn) (.slice aa a.len ca) (.slice ab b.len cb) (.slice ac c.len cc))) wx)
  case first =>
    go_wp2_with fail
    refine wp_loop_rounds 1 ?_
    rw [rounds_succ]
    by_cases hb0 : 0 < b.len
    · have q1 : decide (0 < b.len) = true := decide_eq_true hb0
      have q2 : decide ((0 : Int) < (b.len : Int)) = true := decide_eq_true (by omega)
      go_wp2_with fail
      go_meet
      exact ⟨_, rfl, by rw [HK5.out]; rfl, Below.refl _ _⟩
    · have q1 : decide (0 < b.len) = false := decide_eq_false hb0
      have q2 : decide ((0 : Int) < (b.len : Int)) = false := decide_eq_false (by omega)
      go_wp2_with fail
      go_meet
      exact ⟨_, rfl, by rw [HK5.out]; rfl, Below.refl _ _⟩
  case rest =>
    obtain ⟨i6, rfl, h5, hbel⟩ := hcut
    have HT := Lib.hid (usesE_open (s := s) (a := a) (c := c) h1 h3x h5)
    have HB0 := Lib.hid hbel
    have HB02 := Lib.hid (below_old hbel)
    have HW0 := hbel.size
    simp only [World.size_alloc] at HW0
    obtain ⟨b0, b1, b2, b3, b4, b5, b6, b7⟩ := exBox_cell (Nat.lt_succ_self _) hbel
    clear hbel h5
    obtain ⟨i0, hi, hz0, hz1, hz2⟩ := info_of info_ex
    have HI := Lib.hid (And.intro hi (And.intro hz0 (And.intro hz1 hz2)))
    clear hi hz0 hz1 hz2
    go_wp2_with (at_builtin; refine wpList_append_fx (w.heap.size + 1) rfl _ _ _ rfl 27 i0 _ under_exs HI.out.1 HI.out.2.1 HI.out.2.2.1 HI.out.2.2.2 rfl (ok := Old w.heap.size) (f := a) rfl rfl (HV.out.a.keep (keep_below HB02.out fun _ h => h)) (by omega) (by omega) ?_; intro u1 w1 cs1 hr1 ho1 hg1)
    have HB1 := Lib.hid (show Below (w.heap.size + 1) (w.alloc (exBox k s nn op (.slice an ns.length cn) (.slice aa a.len ca) (.slice ab b.len cb) (.slice ac c.len cc))) w1 from HB0.out.grown hg1 (by omega) (fun q hq => by cases hq))
    have HR1 := Lib.hid (hr1.keep (keep_below ((Below.refl w.heap.size _).grown hg1 (by omega) (fun q hq => by cases hq)) fun _ h => h) : FxRow (Old w.heap.size) w1 a cs1)
    have HO1 := Lib.hid ho1
    clear hr1 ho1 hg1 b0 b1 b2 b3 b4 b5 b6 b7
    go_loopw [7, 8] (fun u i wr => ∃ (p r : Fx) (cs : List Value), b = p.app r ∧ i = .int .i64 p.len ∧ wr.ownsRow (w.heap.size + 1) 27 8 u (a.app p).len cs ∧ FxRow (Old w.heap.size) wr (a.app p) cs ∧ Below (w.heap.size + 1) (w.alloc (exBox k s nn op (.slice an ns.length cn) (.slice aa a.len ca) (.slice ab b.len cb) (.slice ac c.len cc))) wr) (fun _ i _ => b.len - (intOf i).toNat)
    case atStart => exact ⟨.nil, b, _, rfl, rfl, by exact (Fx.app_nil a).symm ▸ HO1.out, by exact (Fx.app_nil a).symm ▸ HR1.out, HB1.out⟩
    case round =>
      obtain ⟨p, r, cs, hf, rfl, hown, hrow, hbel⟩ := hrel
      have HW := hbel.size
      simp only [World.size_alloc] at HW
      obtain ⟨b0, b1, b2, b3, b4, b5, b6, b7⟩ := exBox_cell (Nat.lt_succ_self _) hbel
      have HB := Lib.hid hbel
      have HB2 := Lib.hid (below_old hbel)
      have HF := Lib.hid hf
      have HO := Lib.hid hown
      have HR := Lib.hid hrow
      have hdl : (a.app p).len ≤ 1048576 := by
        have := congrArg Fx.len hf
        rw [Fx.len_app] at this
        rw [Fx.len_app]
        omega
      clear hbel hf hown hrow
      by_cases hlt : p.len < b.len
      · obtain ⟨p1, k1, s1, n1, op1, ns1, y0, y1, y2, r1, rfl⟩ := fx_cons_of HF.out hlt
        obtain ⟨bb, oo, xn, xa, xb, xc, rfl, hbb, hlc, hcm, hlt1, hpre, c0, c1, c2, c3, c4, c5, c6, c7, hx⟩ := fx_at (HV.out.b.keep (keep_below HB2.out fun _ h => h)) HF.out
        obtain ⟨yn, qn, rfl⟩ := hx.ns.slice
        obtain ⟨ya, qa, rfl⟩ := hx.a.slice
        obtain ⟨yb, qb, rfl⟩ := hx.b.slice
        obtain ⟨yc, qc, rfl⟩ := hx.c.slice
        have HX := Lib.hid hx
        have hbb' : bb < wr.heap.size := Nat.lt_of_lt_of_le hbb HB2.out.size
        clear hx hbb
        simp only [Nat.reduceAdd] at c0 c1 c2 c3 c4 c5 c6 c7
        clear hpre
        go_wp2_with (at_builtin; refine wpList_append_lies _ rfl _ _ _ rfl (w.heap.size + 1) 27 i0 _ 8 136 under_exs HI.out.1 HI.out.2.1 HI.out.2.2.1 HI.out.2.2.2 rfl (by decide) u7 (a.app p).len cs rfl (HO.out.alloc _) ⟨wr.heap.size, 0, none⟩ 1 1 [.int .i64 k1, .string (bt s1), .int .i64 n1, .int .i64 op1, .slice yn ns1.length qn, .slice ya y0.len qa, .slice yb y1.len qb, .slice yc y2.len qc] rfl rfl (ex_news wr k1 s1 n1 op1 _ _ _ _) (FxRow.one (ok := Old w.heap.size) (w := wr) (f := .cons .no k1 s1 n1 op1 ns1 y0 y1 y2 .nil) ⟨_, _, _, _, [], rfl, HX.out, rfl⟩) (by omega) (by simp [maxLen]; omega) (by omega) (by simp; omega) _ rfl ?_; intro g6 cap6 w6 hown6 hgrow hat hlt6)
        have HB6 := Lib.hid (show Below (w.heap.size + 1) (w.alloc (exBox k s nn op (.slice an ns.length cn) (.slice aa a.len ca) (.slice (some ⟨bb, oo, none⟩) b.len cb) (.slice ac c.len cc))) w6 from (HB.out.alloc HW _).grown hgrow (by simp; omega) (fun q hq => (HO.out.lt q hq).1))
        have hstep : Below w.heap.size wr w6 := ((below_alloc' wr _).mono (by omega)).trans (((Below.refl w.heap.size _).grown hgrow (by simp; omega) (fun q hq => by have := (HO.out.lt q hq).1; omega)))
        have eD : (a.app (p.app (.cons p1 k1 s1 n1 op1 ns1 y0 y1 y2 .nil)) ) = (a.app p).app (.cons p1 k1 s1 n1 op1 ns1 y0 y1 y2 .nil) := (Fx.app_app _ _ _).symm
        have HR6 := Lib.hid (show FxRow (Old w.heap.size) w6 (a.app (p.app (.cons p1 k1 s1 n1 op1 ns1 y0 y1 y2 .nil)) ) (cs ++ [.int .i64 k1, .string (bt s1), .int .i64 n1, .int .i64 op1, .slice yn ns1.length qn, .slice ya y0.len qa, .slice yb y1.len qb, .slice yc y2.len qc]) by
          rw [eD]
          exact FxRow.app (g := .cons p1 k1 s1 n1 op1 ns1 y0 y1 y2 .nil) ⟨_, _, _, _, [], rfl, HX.out.keep (keep_below hstep fun _ h => h), rfl⟩ (HR.out.keep (keep_below hstep fun _ h => h)))
        have HO6 := Lib.hid (show w6.ownsRow (w.heap.size + 1) 27 8 (.slice (some ⟨g6, 0, none⟩) ((a.app p).len + 1) cap6) (a.app (p.app (.cons p1 k1 s1 n1 op1 ns1 y0 y1 y2 .nil)) ).len _ by
          have e : (a.app (p.app (.cons p1 k1 s1 n1 op1 ns1 y0 y1 y2 .nil)) ).len = (a.app p).len + 1 := by rw [eD, Fx.len_app]; rfl
          rw [e]; exact hown6)
        clear hown6 hgrow hat hstep eD
        go_wp2
        go_roundw
        case rel => exact ⟨p.app (.cons p1 k1 s1 n1 op1 ns1 y0 y1 y2 .nil), r1, _, by rw [Fx.app_app]; exact HF.out, by rw [Fx.len_app]; simp only [Fx.len]; go_num, HO6.out, HR6.out, HB6.out⟩
        case measure => simp [intOf]; omega
      · have e1 := fx_nil_of HF.out hlt
        subst e1
        rw [Fx.app_nil] at HF
        obtain rfl := HF.out
        go_wp2_with fail
        go_loopw [7, 9] (fun u i wr => ∃ (p r : Fx) (cs : List Value), c = p.app r ∧ i = .int .i64 p.len ∧ wr.ownsRow (w.heap.size + 1) 27 8 u (DN x k s a b p).len cs ∧ FxRow (Old w.heap.size) wr (DN x k s a b p) cs ∧ Below (w.heap.size + 1) (w.alloc (exBox k s nn op (.slice an ns.length cn) (.slice aa a.len ca) (.slice ab b.len cb) (.slice ac c.len cc))) wr) (fun _ i _ => c.len - (intOf i).toNat)
        case atStart => exact ⟨.nil, c, _, rfl, rfl, by exact (show DN x k s a b .nil = a.app b from Fx.app_nil _).symm ▸ HO.out, by exact (show DN x k s a b .nil = a.app b from Fx.app_nil _).symm ▸ HR.out, HB.out⟩
        case round =>
          obtain ⟨p, r, cs, hf, rfl, hown, hrow, hbel⟩ := hrel
          have HW := hbel.size
          simp only [World.size_alloc] at HW
          obtain ⟨b0, b1, b2, b3, b4, b5, b6, b7⟩ := exBox_cell (Nat.lt_succ_self _) hbel
          have HB := Lib.hid hbel
          have HB2 := Lib.hid (below_old hbel)
          have HF := Lib.hid hf
          have HO := Lib.hid hown
          have HR := Lib.hid hrow
          have hdl : (DN x k s a b p).len ≤ 1048576 := by
            have := congrArg Fx.len hf
            rw [Fx.len_app] at this
            have h2 := sel_len (altSees x k s) p; unfold DN; rw [Fx.len_app, Fx.len_app]
            omega
          clear hbel hf hown hrow
          by_cases hlt : p.len < c.len
          · obtain ⟨p1, k1, s1, n1, op1, ns1, y0, y1, y2, r1, rfl⟩ := fx_cons_of HF.out hlt
            obtain ⟨bb, oo, xn, xa, xb, xc, rfl, hbb, hlc, hcm, hlt1, hpre, c0, c1, c2, c3, c4, c5, c6, c7, hx⟩ := fx_at (HV.out.c.keep (keep_below HB2.out fun _ h => h)) HF.out
            obtain ⟨yn, qn, rfl⟩ := hx.ns.slice
            obtain ⟨ya, qa, rfl⟩ := hx.a.slice
            obtain ⟨yb, qb, rfl⟩ := hx.b.slice
            obtain ⟨yc, qc, rfl⟩ := hx.c.slice
            have HX := Lib.hid hx
            have hbb' : bb < wr.heap.size := Nat.lt_of_lt_of_le hbb HB2.out.size
            clear hx hbb
            cases p1 with
            | no => cases hpre
            | bind _ => cases hpre.1
            | alt ka sa na nsa =>
              obtain ⟨_, p0, p1, p2, vv, p3, hnv⟩ := hpre
              obtain ⟨zn, zq, rfl⟩ := hnv.slice
              have HNV := Lib.hid hnv
              have hnl : nsa.length ≤ 1048576 := by
                have h1 := congrArg Fx.wt HF.out
                rw [Fx.wt_app] at h1
                simp only [Fx.wt, Pre.wt] at h1
                have h2 := nsWt_le nsa
                omega
              clear hnv
              simp only [Nat.reduceAdd] at p0 p1 p2 p3 c0
              replace c1 : wr.cell? ⟨bb, oo + p.len * 12 + 5, none⟩ = _ := c1
              replace c2 : wr.cell? ⟨bb, oo + p.len * 12 + 6, none⟩ = _ := c2
              replace c3 : wr.cell? ⟨bb, oo + p.len * 12 + 7, none⟩ = _ := c3
              replace c4 : wr.cell? ⟨bb, oo + p.len * 12 + 8, none⟩ = _ := c4
              replace c5 : wr.cell? ⟨bb, oo + p.len * 12 + 9, none⟩ = _ := c5
              replace c6 : wr.cell? ⟨bb, oo + p.len * 12 + 10, none⟩ = _ := c6
              replace c7 : wr.cell? ⟨bb, oo + p.len * 12 + 11, none⟩ = _ := c7
              have z0 := cell_al (by omega) b0
              have z1 := cell_al (by omega) b1
              go_wp2_with fail
              refine (has_any _ nsa x _ hnl (HNV.out.keep (keep_up (below_alloc' _ _) (Nat.le_of_lt (by omega))))).mono ?_
              rintro e w' ⟨rfl, rfl⟩
              have HSK := Lib.hid (show altSees x k s (.alt ka sa na nsa) = false → DN x k s a b (p.app (.cons (.alt ka sa na nsa) k1 s1 n1 op1 ns1 y0 y1 y2 .nil)) = DN x k s a b p from fun h => by
                unfold DN
                rw [sel_app]
                simp only [Fx.sel, h]
                rw [show (if false = true then Fx.cons (.alt ka sa na nsa) k1 s1 n1 op1 ns1 y0 y1 y2 .nil else .nil) = .nil from rfl, Fx.app_nil])
              have HTK := Lib.hid (show altSees x k s (.alt ka sa na nsa) = true → DN x k s a b (p.app (.cons (.alt ka sa na nsa) k1 s1 n1 op1 ns1 y0 y1 y2 .nil)) = (DN x k s a b p).app (.cons (.alt ka sa na nsa) k1 s1 n1 op1 ns1 y0 y1 y2 .nil) from fun h => by
                unfold DN
                rw [sel_app]
                simp only [Fx.sel, h, if_true]
                exact (Fx.app_app _ _ _).symm)
              by_cases hmem : x ∈ nsa
              · have hd : decide (x ∈ nsa) = true := decide_eq_true hmem
                have HE := Lib.hid (HSK.out (by simp [altSees, hmem]))
                clear hmem
                go_wp2_with fail
                go_roundw
                case rel => exact ⟨p.app (.cons (.alt ka sa na nsa) k1 s1 n1 op1 ns1 y0 y1 y2 .nil), r1, cs, by rw [Fx.app_app]; exact HF.out, by rw [Fx.len_app]; simp only [Fx.len]; go_num, by rw [HE.out]; exact HO.out.alloc _, by rw [HE.out]; exact HR.out.keep (keep_below ((below_alloc' wr _).mono (by omega)) fun _ h => h), HB.out.alloc HW _⟩
                case measure => simp [intOf]; omega
              · have hd : decide (x ∈ nsa) = false := decide_eq_false hmem
                cases hk6 : (k == 6) with
                | false =>
                  have HE := Lib.hid (HTK.out (by simp [altSees, hmem, hk6]))
                  clear hmem
                  go_wp2_with (at_builtin; refine wpList_append_lies _ rfl _ _ _ rfl (w.heap.size + 1) 27 i0 _ 8 136 under_exs HI.out.1 HI.out.2.1 HI.out.2.2.1 HI.out.2.2.2 rfl (by decide) u7 (DN x k s a b p).len cs rfl ((HO.out.alloc _).alloc _) ⟨wr.heap.size + 1, 0, none⟩ 1 1 [.int .i64 k1, .string (bt s1), .int .i64 n1, .int .i64 op1, .slice yn ns1.length qn, .slice ya y0.len qa, .slice yb y1.len qb, .slice yc y2.len qc] rfl rfl (ex_news2 wr _ k1 s1 n1 op1 _ _ _ _) (FxRow.one (ok := Old w.heap.size) (w := wr) (f := .cons .no k1 s1 n1 op1 ns1 y0 y1 y2 .nil) ⟨_, _, _, _, [], rfl, HX.out, rfl⟩) (by omega) (by simp [maxLen]; omega) (by omega) (by simp; omega) _ rfl ?_; intro g6 cap6 w6 hown6 hgrow hat hlt6)
                  have HB6 := Lib.hid (show Below (w.heap.size + 1) (w.alloc (exBox k s nn op (.slice an ns.length cn) (.slice aa a.len ca) (.slice ab b.len cb) (.slice (some ⟨bb, oo, none⟩) c.len cc))) w6 from ((HB.out.alloc HW _).alloc (by simp; omega) _).grown hgrow (by simp; omega) (fun q hq => (HO.out.lt q hq).1))
                  have hstep : Below w.heap.size wr w6 := (((below_alloc' wr _).mono (by omega)).alloc (by simp; omega) _).trans (((Below.refl w.heap.size _).grown hgrow (by simp; omega) (fun q hq => by have := (HO.out.lt q hq).1; omega)))
                  have eD : (DN x k s a b (p.app (.cons (.alt ka sa na nsa) k1 s1 n1 op1 ns1 y0 y1 y2 .nil)) ) = (DN x k s a b p).app (.cons (.alt ka sa na nsa) k1 s1 n1 op1 ns1 y0 y1 y2 .nil) := HE.out
                  have HR6 := Lib.hid (show FxRow (Old w.heap.size) w6 (DN x k s a b (p.app (.cons (.alt ka sa na nsa) k1 s1 n1 op1 ns1 y0 y1 y2 .nil)) ) (cs ++ [.int .i64 k1, .string (bt s1), .int .i64 n1, .int .i64 op1, .slice yn ns1.length qn, .slice ya y0.len qa, .slice yb y1.len qb, .slice yc y2.len qc]) by
                    rw [eD]
                    exact FxRow.app (g := .cons (.alt ka sa na nsa) k1 s1 n1 op1 ns1 y0 y1 y2 .nil) ⟨_, _, _, _, [], rfl, HX.out.keep (keep_below hstep fun _ h => h), rfl⟩ (HR.out.keep (keep_below hstep fun _ h => h)))
                  have HO6 := Lib.hid (show w6.ownsRow (w.heap.size + 1) 27 8 (.slice (some ⟨g6, 0, none⟩) ((DN x k s a b p).len + 1) cap6) (DN x k s a b (p.app (.cons (.alt ka sa na nsa) k1 s1 n1 op1 ns1 y0 y1 y2 .nil)) ).len _ by
                    have e : (DN x k s a b (p.app (.cons (.alt ka sa na nsa) k1 s1 n1 op1 ns1 y0 y1 y2 .nil)) ).len = (DN x k s a b p).len + 1 := by rw [eD, Fx.len_app]; rfl
                    rw [e]; exact hown6)
                  clear hown6 hgrow hat hstep eD
                  go_wp2
                  go_roundw
                  case rel => exact ⟨p.app (.cons (.alt ka sa na nsa) k1 s1 n1 op1 ns1 y0 y1 y2 .nil), r1, _, by rw [Fx.app_app]; exact HF.out, by rw [Fx.len_app]; simp only [Fx.len]; go_num, HO6.out, HR6.out, HB6.out⟩
                  case measure => simp [intOf]; omega
                | true =>
                  by_cases hsx : s = x
                  · have HE := Lib.hid (HSK.out (by simp [altSees, hmem, hk6, hsx]))
                    have hsb : (s == x) = true := by simpa using hsx
                    clear hmem hsx
                    go_wp2_with fail
                    go_roundw
                    case rel => exact ⟨p.app (.cons (.alt ka sa na nsa) k1 s1 n1 op1 ns1 y0 y1 y2 .nil), r1, cs, by rw [Fx.app_app]; exact HF.out, by rw [Fx.len_app]; simp only [Fx.len]; go_num, by rw [HE.out]; exact HO.out.alloc _, by rw [HE.out]; exact HR.out.keep (keep_below ((below_alloc' wr _).mono (by omega)) fun _ h => h), HB.out.alloc HW _⟩
                    case measure => simp [intOf]; omega
                  · have HE := Lib.hid (HTK.out (by simp [altSees, hmem, hk6, hsx]))
                    have hsb : (s == x) = false := by simpa using hsx
                    clear hmem hsx
                    go_wp2_with (at_builtin; refine wpList_append_lies _ rfl _ _ _ rfl (w.heap.size + 1) 27 i0 _ 8 136 under_exs HI.out.1 HI.out.2.1 HI.out.2.2.1 HI.out.2.2.2 rfl (by decide) u7 (DN x k s a b p).len cs rfl ((HO.out.alloc _).alloc _) ⟨wr.heap.size + 1, 0, none⟩ 1 1 [.int .i64 k1, .string (bt s1), .int .i64 n1, .int .i64 op1, .slice yn ns1.length qn, .slice ya y0.len qa, .slice yb y1.len qb, .slice yc y2.len qc] rfl rfl (ex_news2 wr _ k1 s1 n1 op1 _ _ _ _) (FxRow.one (ok := Old w.heap.size) (w := wr) (f := .cons .no k1 s1 n1 op1 ns1 y0 y1 y2 .nil) ⟨_, _, _, _, [], rfl, HX.out, rfl⟩) (by omega) (by simp [maxLen]; omega) (by omega) (by simp; omega) _ rfl ?_; intro g6 cap6 w6 hown6 hgrow hat hlt6)
                    have HB6 := Lib.hid (show Below (w.heap.size + 1) (w.alloc (exBox k s nn op (.slice an ns.length cn) (.slice aa a.len ca) (.slice ab b.len cb) (.slice (some ⟨bb, oo, none⟩) c.len cc))) w6 from ((HB.out.alloc HW _).alloc (by simp; omega) _).grown hgrow (by simp; omega) (fun q hq => (HO.out.lt q hq).1))
                    have hstep : Below w.heap.size wr w6 := (((below_alloc' wr _).mono (by omega)).alloc (by simp; omega) _).trans (((Below.refl w.heap.size _).grown hgrow (by simp; omega) (fun q hq => by have := (HO.out.lt q hq).1; omega)))
                    have eD : (DN x k s a b (p.app (.cons (.alt ka sa na nsa) k1 s1 n1 op1 ns1 y0 y1 y2 .nil)) ) = (DN x k s a b p).app (.cons (.alt ka sa na nsa) k1 s1 n1 op1 ns1 y0 y1 y2 .nil) := HE.out
                    have HR6 := Lib.hid (show FxRow (Old w.heap.size) w6 (DN x k s a b (p.app (.cons (.alt ka sa na nsa) k1 s1 n1 op1 ns1 y0 y1 y2 .nil)) ) (cs ++ [.int .i64 k1, .string (bt s1), .int .i64 n1, .int .i64 op1, .slice yn ns1.length qn, .slice ya y0.len qa, .slice yb y1.len qb, .slice yc y2.len qc]) by
                      rw [eD]
                      exact FxRow.app (g := .cons (.alt ka sa na nsa) k1 s1 n1 op1 ns1 y0 y1 y2 .nil) ⟨_, _, _, _, [], rfl, HX.out.keep (keep_below hstep fun _ h => h), rfl⟩ (HR.out.keep (keep_below hstep fun _ h => h)))
                    have HO6 := Lib.hid (show w6.ownsRow (w.heap.size + 1) 27 8 (.slice (some ⟨g6, 0, none⟩) ((DN x k s a b p).len + 1) cap6) (DN x k s a b (p.app (.cons (.alt ka sa na nsa) k1 s1 n1 op1 ns1 y0 y1 y2 .nil)) ).len _ by
                      have e : (DN x k s a b (p.app (.cons (.alt ka sa na nsa) k1 s1 n1 op1 ns1 y0 y1 y2 .nil)) ).len = (DN x k s a b p).len + 1 := by rw [eD, Fx.len_app]; rfl
                      rw [e]; exact hown6)
                    clear hown6 hgrow hat hstep eD
                    go_wp2
                    go_roundw
                    case rel => exact ⟨p.app (.cons (.alt ka sa na nsa) k1 s1 n1 op1 ns1 y0 y1 y2 .nil), r1, _, by rw [Fx.app_app]; exact HF.out, by rw [Fx.len_app]; simp only [Fx.len]; go_num, HO6.out, HR6.out, HB6.out⟩
                    case measure => simp [intOf]; omega
          · have e1 := fx_nil_of HF.out hlt
            subst e1
            rw [Fx.app_nil] at HF
            obtain rfl := HF.out
            go_wp2_with fail
            have hfv : FxV (Old wr.heap.size) wr 0 u7 ((DN x k s a b c).bare) := HR.out.value HO.out rfl (fun b h => Nat.lt_of_lt_of_le h HB2.out.size) (fun g hg => (HO.out.lt g hg).2)
            obtain ⟨F, hF⟩ : ∃ F, F = (DN x k s a b c).bare := ⟨_, rfl⟩
            rw [← hF] at hfv
            have hFo : F = open' x k s a b c := by rw [hF]; unfold DN; rw [Fx.app_app]; rfl
            have hFw : F.wt ≤ a.wt + b.wt + c.wt := by
              rw [hF]
              have h1 := bare_wt (DN x k s a b c)
              have h2 := sel_wt (altSees x k s) c
              unfold DN at h1 ⊢
              rw [Fx.wt_app, Fx.wt_app] at h1
              omega
            have hFc : F.count ≤ (parts a b c).count := by
              rw [hF, Fx.count_bare]
              unfold DN
              rw [Fx.count_app, Fx.count_app, parts_count]
              have := sel_count (altSees x k s) c
              omega
            have hFl := F.len_le
            have hFcw := F.count_wt
            have hfl : F.len ≤ 1048576 := by omega
            have hFcc : F.count ≤ 131072 := by omega
            rw [← hFo] at HT
            obtain ⟨a3, c3, rfl⟩ := hfv.slice
            have HV3 := Lib.hid hfv
            have HFc := Lib.hid hFc
            have HFw := Lib.hid hFw
            obtain ⟨w3, hw3⟩ : ∃ w3 : World, w3 = wr := ⟨_, rfl⟩
            have HBW := Lib.hid (show Below w.heap.size w w3 by rw [hw3]; exact HB2.out)
            have h33 : Below w3.heap.size w3 wr := by rw [hw3]; exact Below.refl _ _
            rw [← hw3] at HV3
            have HBA := Lib.hid (show Below (w.heap.size + 1) (w.alloc (exBox k s nn op (.slice an ns.length cn) (.slice aa a.len ca) (.slice ab b.len cb) (.slice ac c.len cc))) w3 by rw [hw3]; exact HB.out)
            have HNN := Lib.hid (show nsWt ns ≤ 1048576 by omega)
            clear hfv hF hFo hFc hFl hFw hFcw hdl
            go_loopw [11, 12, 13] (fun t v i wr => ∃ f1 f2 : Fx, F = f1.app f2 ∧ i = .int .i64 f1.len ∧ t = .int .i64 (sumU x f1) ∧ v = .bool (anyU x (k == 3) f1) ∧ Below w3.heap.size w3 wr) (fun _ _ i _ => F.len - (intOf i).toNat)
            case atStart => exact ⟨.nil, F, rfl, rfl, rfl, rfl, h33⟩
            case round =>
              obtain ⟨f1, f2, hf, rfl, rfl, rfl, hbel⟩ := hrel
              have HBr := Lib.hid hbel
              have HF := Lib.hid hf
              have HL := Lib.hid (congrArg Fx.len hf)
              have hsu : sumU x f1 ≤ 131072 := by have := sumU_le x f1; have h2 := congrArg Fx.count hf; rw [Fx.count_app] at h2; omega
              have hb4 : Below (w.heap.size + 1) (w.alloc (exBox k s nn op (.slice an ns.length cn) (.slice aa a.len ca) (.slice ab b.len cb) (.slice ac c.len cc))) wr := blwS HBA.out hbel (by have := HBA.out.size; simp at this; omega)
              obtain ⟨b0, b1, b2, b3, b4, b5, b6, b7⟩ := exBox_cell (Nat.lt_succ_self _) hb4
              clear hbel hf hb4
              by_cases hlt : f1.len < F.len
              · obtain ⟨p1, k1, s1, n1, op1, ns1, y0, y1, y2, r1, rfl⟩ := fx_cons_of HF.out hlt
                obtain ⟨bb, oo, xn, xa, xb, xc, rfl, hbb, hlc, hcm, hlt1, _, c0, c1, c2, c3', c4, c5, c6, c7, hx⟩ := fx_at (HV3.out.keep (keep_up HBr.out (Nat.le_refl _))) HF.out
                obtain ⟨yn, qn, rfl⟩ := hx.ns.slice
                obtain ⟨ya, qa, rfl⟩ := hx.a.slice
                obtain ⟨yb, qb, rfl⟩ := hx.b.slice
                obtain ⟨yc, qc, rfl⟩ := hx.c.slice
                have HX := Lib.hid hx
                have hbb' : bb < wr.heap.size := hbb
                clear hx hbb
                simp only [Nat.add_zero, Nat.zero_add] at c0 c1 c2 c3' c4 c5 c6 c7
                have hcx : (parts y0 y1 y2).count < n ∧ y0.wt + y1.wt + y2.wt + nsWt ns1 ≤ 1048576 := by
                  have h1 := congrArg Fx.count HF.out
                  have h2 := congrArg Fx.wt HF.out
                  have h3 := HFc.out
                  have h4 := HFw.out
                  rw [Fx.count_app] at h1
                  rw [Fx.wt_app] at h2
                  simp only [Fx.count] at h1
                  simp only [Fx.wt] at h2
                  rw [parts_count y0 y1 y2]
                  omega
                obtain ⟨hcx1, hcx2⟩ := hcx
                obtain ⟨⟨m1, q1⟩, hU1⟩ : ∃ U, usesE x k1 s1 ns1 y0 y1 y2 = U := ⟨_, rfl⟩
                have hm1 : m1 ≤ 131073 := by
                  have h1 := usesE_le x k1 s1 ns1 y0 y1 y2
                  have h2 := y0.count_wt
                  have h3 := y1.count_wt
                  have h4 := y2.count_wt
                  rw [hU1] at h1
                  dsimp only at h1
                  omega
                have HU1 := Lib.hid hU1
                have HS1 := Lib.hid (show sumU x (f1.app (.cons p1 k1 s1 n1 op1 ns1 y0 y1 y2 .nil)) = sumU x f1 + m1 by rw [sumU_app]; simp only [sumU, hU1]; omega)
                have HA1 := Lib.hid (show anyU x (k == 3) (f1.app (.cons p1 k1 s1 n1 op1 ns1 y0 y1 y2 .nil)) = (anyU x (k == 3) f1 || (q1 || (decide (0 < m1) && (k == 3)))) by rw [anyU_app]; simp only [anyU, hU1, Bool.or_false])
                clear hU1
                obtain ⟨Q, hQ⟩ : ∃ Q, anyU x (k == 3) f1 = Q := ⟨_, rfl⟩
                rw [hQ] at HA1 ⊢
                clear hQ
                go_wp2_with fail
                have hcon := ih k1 s1 n1 op1 _ _ _ _ ns1 y0 y1 y2 x _ hcx1 hcx2 HX.out
                rw [HU1.out] at hcon
                refine hcon.mono ?_
                clear hcon
                rintro e w4 ⟨rfl, hb4⟩
                have HB4 := Lib.hid (blwS HBr.out hb4 HBr.out.size)
                have hb5 : Below (w.heap.size + 1) (w.alloc (exBox k s nn op (.slice an ns.length cn) (.slice aa a.len ca) (.slice ab b.len cb) (.slice ac c.len cc))) w4 := blwS HBA.out HB4.out (by have := HBA.out.size; simp at this; omega)
                clear hb4 b0 b1 b2 b3 b4 b5 b6 b7 c0 c1 c2 c3' c4 c5 c6 c7
                obtain ⟨b0, b1, b2, b3, b4, b5, b6, b7⟩ := exBox_cell (Nat.lt_succ_self _) hb5
                clear hb5
                by_cases hp : 0 < m1
                all_goals
                  first
                  | (have p1 : decide (0 < m1) = true := decide_eq_true hp
                     have p2 : decide ((0 : Int) < (m1 : Int)) = true := decide_eq_true (by omega))
                  | (have p1 : decide (0 < m1) = false := decide_eq_false hp
                     have p2 : decide ((0 : Int) < (m1 : Int)) = false := decide_eq_false (by omega))
                  clear hp
                  cases Q
                  all_goals
                    cases q1
                    all_goals
                      go_wp2_with fail
                      go_roundw
                      case rel => exact ⟨f1.app (.cons _ k1 s1 n1 op1 ns1 y0 y1 y2 .nil), r1, by rw [Fx.app_app]; exact HF.out, by rw [Fx.len_app]; simp only [Fx.len]; go_num, by rw [HS1.out]; go_num, by rw [HA1.out, p1, h3]; rfl, HB4.out⟩
                      case measure => simp [intOf]; omega
              · have e1 := fx_nil_of HF.out hlt
                go_wp2_with fail
                go_ret2
                refine ⟨?_, blwS HBW.out HBr.out HBW.out.size⟩
                rw [HT.out, HF.out, e1, Fx.app_nil]
                rfl
end Go.Proofs.Ytnbbbfjjknkioaa
