/- The contract of the iterator over the parts into which counting goes: where it goes into them. A bound on how many parts there are. -/
import Derived.Test.YtfcogjlojfcfkaaGreatNH
import Derived.Test.YtfcogjlojfcfkaaGreatMR
namespace Go.Proofs.YtfcogjlojfcfkaaGreat
open Go.RowKit Go.Shelf Ex0
attribute [local go_sem] bt_size bt_list bt_toList Oper.semAt_some

theorem sel_none {q : Pre → Bool} (h : ∀ p, q p = false) (f : Fx) : f.sel q = .nil := by
  induction f with
  | nil => rfl
  | cons p k s n op ns a b c r _ _ _ ih => simp only [Fx.sel, h, Bool.false_eq_true, if_false, ih]
theorem cost_cons (p : Pre) (k : Int) (s : List UInt8) (n op : Int) (ns : List (List UInt8)) (a b c r : Fx) : (Fx.cons p k s n op ns a b c r).cost = p.cost + costE ns a b c + r.cost := rfl

theorem pres_app (f g : Fx) : pres (f.app g) = pres f ++ pres g := by
  induction f with
  | nil => rfl
  | cons p k s n op ns a b c r _ _ _ ih => simp only [Fx.app, pres, ih, List.cons_append]

set_option maxHeartbeats 8000000 in
set_option maxRecDepth 100000 in
theorem iter_vis (cb kb M bx1 bx2 eb eo : Nat) (x : List UInt8) (k : Int) (s : List UInt8) (nn op : Int) (vn va vb vc : Value) (ns : List (List UInt8)) (a b c : Fx) (w0 : World) (J : Fx × Int → World → Prop) (K : World → Prop) (l : Nat) (p0 lo : Int) (W : World)
    (hM : M ≤ cb) (hMw : M ≤ w0.heap.size) (hown : ownB k s nn op ns a.len b.len c = true) (hcnt : (parts a b c).count ≤ 1048576) (hns : ns.length ≤ 1048576) (hans : ∀ p ∈ pres c, p.cost ≤ 1048576)
    (he : ExL M w0 eb eo k s nn op vn va vb vc ns a b c) (hb1 : w0.cell? ⟨bx1, 0, none⟩ = some (.pointer (some ⟨cb, 0, none⟩))) (hb2 : w0.cell? ⟨bx2, 0, none⟩ = some (.pointer (some ⟨eb, eo, none⟩))) (hne : bx1 ≠ cb ∧ bx2 ≠ cb)
    (hJc : ∀ s W, J s W → Ctr W cb kb x s.2 ∧ Lk cb M bx1 bx2 w0 W ∧ s.2 ≤ 1048576) (hJs : ∀ s W W' p', J s W → Ct cb W W' → Ctr W' cb kb x p' → p' ≤ s.2 → lo ≤ p' → J (s.1, p') W') (hKs : ∀ W W', K W → Ct cb W W' → K W')
    (hY : ∀ t y W, J t W → K W → okPt M w0 (vis x k s ns a b c) lo t y → YieldAt Fence.wide 2 Tryz.prog l y.enc W fun e W' => e = .returned (.bool true) ∧ ∃ t', nxPt t y t' ∧ J t' W' ∧ K W')
    (h0 : J (.nil, p0) W) (hK0 : K W) (hlo : 0 ≤ lo) (hp0 : (ns.length : Int) + b.len + (a.cost + b.cost + c.cost) + lo ≤ p0) (hq : decide (x ∈ ns) = false) (hr : bindsX x b = false) :
    CallsIn Fence.wide 3 Tryz.prog 48 #[.func (.yield l) #[] #[], .pointer (some ⟨bx1, 0, none⟩), .pointer (some ⟨bx2, 0, none⟩)] W fun e W' => (∃ v, e = .returned v) ∧ ∃ t, t.1 = vis x k s ns a b c ∧ J t W' ∧ K W' := by
  obtain ⟨an, cn, rfl⟩ := he.ex.ns.slice
  obtain ⟨aa, ca, rfl⟩ := he.ex.a.slice
  obtain ⟨ab, cb', rfl⟩ := he.ex.b.slice
  obtain ⟨ac, cc, rfl⟩ := he.ex.c.slice
  have hJ0 := hJc _ _ h0
  have HE := Lib.hid he
  have HW0 := Lib.hid hJ0.2.1
  have HEW := Lib.hid (he.lk hJ0.2.1)
  have hp1 : p0 ≤ 1048576 := hJ0.2.2
  have HC0 := Lib.hid hJ0.1
  have hMW : M ≤ W.heap.size := Nat.le_trans hMw hJ0.2.1.size
  have hlen : a.len + b.len + c.len ≤ 1048576 := by have := (parts a b c).len_le; rw [parts_len] at this; omega
  have HO := Lib.hid (own_no hown)
  have HJ0 := Lib.hid h0
  have HK0 := Lib.hid hK0
  have HC := Lib.hid (show ∀ w', Lk cb M bx1 bx2 w0 w' → w'.cell? ⟨bx1, 0, none⟩ = some (.pointer (some ⟨cb, 0, none⟩)) ∧ w'.cell? ⟨bx2, 0, none⟩ = some (.pointer (some ⟨eb, eo, none⟩)) ∧ w'.cell? ⟨eb, eo, none⟩ = some (.int .i64 k) ∧ w'.cell? ⟨eb, eo + 1, none⟩ = some (.string (bt s)) ∧ w'.cell? ⟨eb, eo + 4, none⟩ = some (.slice an ns.length cn) ∧ w'.cell? ⟨eb, eo + 5, none⟩ = some (.slice aa a.len ca) ∧ w'.cell? ⟨eb, eo + 6, none⟩ = some (.slice ab b.len cb') ∧ w'.cell? ⟨eb, eo + 7, none⟩ = some (.slice ac c.len cc) from
    fun w' h => ⟨h.cell1.trans hb1, h.cell2.trans hb2, (HE.out.lk h).c0, (HE.out.lk h).c1, (HE.out.lk h).c4, (HE.out.lk h).c5, (HE.out.lk h).c6, (HE.out.lk h).c7⟩)
  obtain ⟨e1, e2, _, _, e4, _, e6, _⟩ := HC.out _ HW0.out
  have hp00 : 0 ≤ p0 := by omega
  have hw0W := HW0.out.size
  clear hJ0 he h0 hK0 hown hb1 hb2 hne
  have HV := Lib.hid (show vis x k s ns a b c = (a.app b).app (c.sel (altSees x k s)) by unfold vis; rw [hq, hr]; rfl)
  refine callsIn_of_wp Tryz.func48 rfl trivial ?_ rfl
  simp only [Tryz.ntmps48, List.size_toArray, List.length_cons, List.length_nil, Nat.reduceAdd, Nat.reduceSub, Array.replicate_succ, Array.replicate_zero, List.push_toArray, List.append_toArray, List.nil_append, List.cons_append]
  gi_wp2_with fail
  refine wpIn_wide.2 ?_
  go_region_held3 (fun w' => w'.cell? ⟨bx1, 0, none⟩ = some (.pointer (some ⟨cb, 0, none⟩)) ∧ w'.cell? ⟨bx2, 0, none⟩ = some (.pointer (some ⟨eb, eo, none⟩)) ∧ w'.cell? ⟨eb, eo + 4, none⟩ = some (.slice an ns.length cn) ∧ w'.cell? ⟨eb, eo + 6, none⟩ = some (.slice ab b.len cb'))
    (first
      | exact (have q := HC.out _ HT6.out.1; ⟨q.1, q.2.1, q.2.2.2.2.1, q.2.2.2.2.2.2.1⟩)
      | exact (have q := HC.out _ HT5.out.1; ⟨q.1, q.2.1, q.2.2.2.2.1, q.2.2.2.2.2.2.1⟩)
      | with_reducible exact (have q := HC.out _ (HW0.out.ct (Ct.drew cb W)); ⟨q.1, q.2.1, q.2.2.2.2.1, q.2.2.2.2.2.2.1⟩)
      | (go_keep; done))
    (first
      | (go_at_call 49; have hcon := among_any cb kb _ ns x p0 _ M hns (HEW.out.ex.ns.keep (keep_ct (Ct.drew cb W) hM hMW)) hM hMW HC0.out.drew ⟨hp00, hp1⟩; rw [hq] at hcon; refine hcon.mono ?_; clear hcon; rintro e w5 ⟨rfl, ct5, cr5⟩; have HT5 := Lib.hid (And.intro (HW0.out.ct ((Ct.drew cb W).trans ct5)) cr5); have HS5 := Lib.hid ((Ct.drew cb W).trans ct5); clear ct5 cr5)
      | (go_at_call 50; have hcon := isbound_any cb kb _ b x _ _ M (by omega) (HEW.out.ex.b.keep (keep_ct HS5.out hM hMW)) hM (Nat.le_trans hMW HS5.out.size) HT5.out.2 (by omega); rw [hr] at hcon; refine hcon.mono ?_; clear hcon; rintro e w6 ⟨rfl, ct6, cr6⟩; have HT6 := Lib.hid (And.intro (HT5.out.1.ct ct6) cr6); have HS6 := Lib.hid (HS5.out.trans ct6); clear ct6 cr6))
  clear e1 e2 e4 e6
  obtain ⟨e1, e2, _, _, _, e5, _, _⟩ := HC.out _ HT6.out.1
  gi_wp2_with fail
  gi_loopw [28] (fun i wr => ∃ (f1 f2 : Fx) (p : Int), a = f1.app f2 ∧ i = .int .i64 f1.len ∧ J (f1, p) wr ∧ K wr ∧ ((f2.cost + b.cost + c.cost : Nat) : Int) + lo ≤ p) (fun i _ => a.len - (intOf i).toNat)
  case atStart => exact ⟨.nil, a, p0 - ns.length - b.len, rfl, rfl, hJs _ _ _ _ HJ0.out HS6.out HT6.out.2 (by dsimp only; omega) (by omega), hKs _ _ HK0.out HS6.out, by omega⟩
  case round =>
    obtain ⟨f1, f2, p, hf, rfl, hj, hk, hp⟩ := hrel
    have hJ := hJc _ _ hj
    have HF := Lib.hid hf
    have HJ := Lib.hid hj
    have HK := Lib.hid hk
    have hfl := congrArg Fx.len hf
    rw [Fx.len_app] at hfl
    obtain ⟨g1, g2, g0, gs, g4, g5, g6, g7⟩ := HC.out _ hJ.2.1
    clear hf hj hk hJ e1 e2 e5
    cases f2 with
    | nil =>
      rw [Fx.app_nil] at HF
      obtain rfl := HF.out
      have hlt : ¬ a.len < a.len := by omega
      clear hfl
      gi_wp2_with fail
      gi_loopw [46] (fun i wr => ∃ (f1 f2 : Fx) (p : Int), b = f1.app f2 ∧ i = .int .i64 f1.len ∧ J (a.app f1, p) wr ∧ K wr ∧ ((f2.cost + c.cost : Nat) : Int) + lo ≤ p) (fun i _ => b.len - (intOf i).toNat)
      case atStart => exact ⟨.nil, b, p, rfl, rfl, by rw [Fx.app_nil]; exact HJ.out, HK.out, by simp only [Fx.cost] at hp; omega⟩
      case round =>
        clear g1 g2 g0 gs g4 g5 g6 g7 hp hlt
        obtain ⟨f1, f2, p, hf, rfl, hj, hk, hp⟩ := hrel
        have hJ := hJc _ _ hj
        have HF := Lib.hid hf
        have HJ := Lib.hid hj
        have HK := Lib.hid hk
        have hfl := congrArg Fx.len hf
        rw [Fx.len_app] at hfl
        obtain ⟨g1, g2, g0, gs, g4, g5, g6, g7⟩ := HC.out _ hJ.2.1
        cases f2 with
        | nil =>
          rw [Fx.app_nil] at HF
          obtain rfl := HF.out
          have hlt : ¬ b.len < b.len := by omega
          obtain ⟨h0, _⟩ := ctr_cell hJ.1
          clear hf hj hk hJ hfl
          cases hk6 : (k == 6) with
          | true =>
            by_cases hsx : s = x
            · have hb : (s == x) = true := by simpa using hsx
              have HVN := Lib.hid (show vis x k s ns a b c = a.app b by rw [HV.out, sel_none (fun p => by cases p <;> simp [altSees, hk6, hsx]), Fx.app_nil])
              clear hsx
              gi_wp2_with fail
              refine wpIn_wide.2 ?_
              go_quiet (fail)
              gi_wp2_with fail
              refine bodyPost_ret (results_none rfl _ _ _) rfl ?_
              exact ⟨⟨_, rfl⟩, (a.app b, p), HVN.out.symm, hJs (a.app b, p) _ _ _ HJ.out ((Ct.refl cb wr).same rfl rfl rfl rfl) (hJc _ _ HJ.out).1 (Int.le_refl _) (by omega), hKs _ _ HK.out ((Ct.refl cb wr).same rfl rfl rfl rfl)⟩
            · have hb : (s == x) = false := by simpa using hsx
              have HSX := Lib.hid (show ((k == 6) && decide (s = x)) = false by rw [decide_eq_false hsx, Bool.and_false])
              clear hsx
              gi_wp2_with fail
              refine wpIn_wide.2 ?_
              go_quiet (fail)
              gi_wp2_with fail
              have HA := Lib.hid (show ∀ k1 s1 n1 ns1, altSees x k s (.alt k1 s1 n1 ns1) = !decide (x ∈ ns1) by intro k1 s1 n1 ns1; simp only [altSees, HSX.out, Bool.not_false, Bool.and_true])
              gi_loopw [81] (fun i wr => ∃ (f1 f2 : Fx) (p : Int), c = f1.app f2 ∧ i = .int .i64 f1.len ∧ J ((a.app b).app (f1.sel (altSees x k s)), p) wr ∧ K wr ∧ (f2.cost : Int) + lo ≤ p) (fun i _ => c.len - (intOf i).toNat)
              case atStart => exact ⟨.nil, c, p, rfl, rfl, by rw [sel_nil, Fx.app_nil]; exact hJs (a.app b, p) _ _ _ HJ.out ((Ct.refl cb wr).same rfl rfl rfl rfl) (hJc _ _ HJ.out).1 (Int.le_refl _) (by omega), hKs _ _ HK.out ((Ct.refl cb wr).same rfl rfl rfl rfl), by simp only [Fx.cost] at hp; omega⟩
              case round =>
                clear g1 g2 g0 gs g4 g5 g6 g7 hp hlt h0
                obtain ⟨f1, f2, p, hf, rfl, hj, hk, hp⟩ := hrel
                have hJ := hJc _ _ hj
                have HF := Lib.hid hf
                have HJ := Lib.hid hj
                have HK := Lib.hid hk
                have HCt := Lib.hid hJ.1
                have HT := Lib.hid hJ.2.1
                have hpm : p ≤ 1048576 := hJ.2.2
                have hfl := congrArg Fx.len hf
                rw [Fx.len_app] at hfl
                obtain ⟨g1, g2, g0, gs, g4, g5, g6, g7⟩ := HC.out _ hJ.2.1
                clear hf hj hk hJ
                cases f2 with
                | nil =>
                  rw [Fx.app_nil] at HF
                  obtain rfl := HF.out
                  have hlt : ¬ c.len < c.len := by omega
                  clear hfl
                  gi_wp2_with fail
                  go_end0
                  first
                    | exact ⟨⟨_, rfl⟩, (_, p), HV.out.symm, HJ.out, HK.out⟩
                    | exact ⟨⟨_, rfl⟩, ⟨p, by rw [HV.out]; exact HJ.out⟩, HK.out⟩
                | cons p1 k1 s1 n1 op1 ns1 xa xb xc r =>
                  have hlt : f1.len < c.len := by simp only [Fx.len] at hfl; omega
                  obtain ⟨bb, oo, wn, wa, wb, wc, rfl, hbb, hlc, hcm, _, hpre, c0, c1, c2, c3, c4, c5, c6, c7, hx⟩ := fx_at HE.out.ex.c HF.out
                  simp only [Nat.reduceAdd] at hpre c0 c1 c2 c3 c4 c5 c6 c7
                  rw [cost_cons] at hp
                  clear hfl
                  cases p1 with
                  | no => exact absurd (show (4 : Nat) = 0 from hpre) (by decide)
                  | bind t => exact absurd hpre.1 (by decide)
                  | alt ak ast an1 ans =>
                    obtain ⟨_, _, _, _, av, d3, hav⟩ := hpre
                    obtain ⟨aan, acn, rfl⟩ := hav.slice
                    have HAV := Lib.hid hav
                    have HX := Lib.hid (show ExL M w0 bb (oo + f1.len * 12 + 4) k1 s1 n1 op1 wn wa wb wc ns1 xa xb xc from ⟨hbb, c0, c1, c2, c3, c4, c5, c6, c7, hx⟩)
                    have hbw0 := Nat.lt_of_lt_of_le hbb hMw
                    have d3w := (HT.out.cellM hbb).trans d3
                    have hansl : ans.length ≤ 1048576 := hans (.alt ak ast an1 ans) (by rw [HF.out, pres_app]; simp [pres])
                    have hpc : Pre.cost (.alt ak ast an1 ans) = ans.length := rfl
                    rw [hpc] at hp
                    clear hav hx c0 c1 c2 c3 c4 c5 c6 c7 d3 hpc
                    unfold maxLen at hcm
                    have hp0' : 0 ≤ p := by omega
                    have hMr : M ≤ wr.heap.size := Nat.le_trans hMw HT.out.size
                    cases hn : decide (x ∈ ans) with
                    | true =>
                      have HSel := Lib.hid (show (f1.app (.cons (.alt ak ast an1 ans) k1 s1 n1 op1 ns1 xa xb xc .nil)).sel (altSees x k s) = f1.sel (altSees x k s) by rw [sel_app]; simp only [Fx.sel, HA.out, hn, Bool.not_true, Bool.false_eq_true, if_false, Fx.app_nil])
                      gi_wp2_with fail
                      refine wpIn_wide.2 ?_
                      refine region_one 9 (by kernel_rfl) (by kernel_rfl) ?_
                      simp only [List.take_succ_cons, List.take_zero, List.drop_succ_cons, List.drop_zero]
                      refine swk_want (by rfl) (fun K hK => ?_)
                      replace hK := Lib.hid hK
                      go_simp
                      refine hK.out _ ?_
                      clear hK K
                      refine swk_want (by rfl) (fun K hK => ?_)
                      replace hK := Lib.hid hK
                      go_simp
                      refine hK.out _ ?_
                      clear hK K
                      refine swk_want (by rfl) (fun K hK => ?_)
                      replace hK := Lib.hid hK
                      go_simp
                      refine hK.out _ ?_
                      clear hK K
                      refine swk_want (by rfl) (fun K hK => ?_)
                      replace hK := Lib.hid hK
                      go_simp
                      refine hK.out _ ?_
                      clear hK K
                      refine swk_want (by rfl) (fun K hK => ?_)
                      replace hK := Lib.hid hK
                      go_simp
                      refine hK.out _ ?_
                      clear hK K
                      refine swk_want (by rfl) (fun K hK => ?_)
                      replace hK := Lib.hid hK
                      go_simp
                      refine hK.out _ ?_
                      clear hK K
                      refine swk_want (by rfl) (fun K hK => ?_)
                      replace hK := Lib.hid hK
                      go_simp
                      refine hK.out _ ?_
                      clear hK K
                      refine swk_want (by rfl) (fun K hK => ?_)
                      replace hK := Lib.hid hK
                      go_simp
                      refine hK.out _ ?_
                      clear hK K
                      refine swk_want (by rfl) (fun K hK => ?_)
                      replace hK := Lib.hid hK
                      go_simp
                      refine hK.out _ ?_
                      clear hK K
                      refine swk_nil ?_
                      refine one_want rfl (by rfl) (fun K hK => ?_)
                      replace hK := Lib.hid hK
                      go_simp
                      have hcon := among_any cb kb _ ans x p _ M hansl (HAV.out.keep ((HT.out.ct (Ct.drew cb wr)).keep)) hM hMr HCt.out.drew ⟨hp0', hpm⟩
                      rw [hn] at hcon
                      refine hcon.mono ?_
                      clear hcon
                      rintro e w5 ⟨rfl, ct5, cr5⟩
                      have HT5 := Lib.hid (And.intro ((Ct.drew cb wr).trans ct5) cr5)
                      clear ct5 cr5
                      refine hK.out _ _ ?_
                      clear hK K
                      simp only [List.take_succ_cons, List.take_zero, List.drop_succ_cons, List.drop_zero]
                      refine swk_want (by rfl) (fun K hK => ?_)
                      replace hK := Lib.hid hK
                      go_simp
                      refine hK.out _ ?_
                      clear hK K
                      refine swk_want (by rfl) (fun K hK => ?_)
                      replace hK := Lib.hid hK
                      go_simp
                      refine hK.out _ ?_
                      clear hK K
                      refine swk_skip (by kernel_rfl) ?_
                      refine swk_skip (by kernel_rfl) ?_
                      refine swk_skip (by kernel_rfl) ?_
                      refine swk_skip (by kernel_rfl) ?_
                      refine swk_skip (by kernel_rfl) ?_
                      refine swk_skip (by kernel_rfl) ?_
                      refine swk_skip (by kernel_rfl) ?_
                      refine swk_skip (by kernel_rfl) ?_
                      refine swk_skip (by kernel_rfl) ?_
                      refine swk_skip (by kernel_rfl) ?_
                      refine swk_want (by rfl) (fun K hK => ?_)
                      replace hK := Lib.hid hK
                      go_simp
                      refine hK.out _ ?_
                      clear hK K
                      refine swk_nil ?_
                      all_goals gi_wp2_with fail
                      all_goals go_roundw
                      all_goals first
                        | (case rel => exact ⟨f1.app (.cons (.alt ak ast an1 ans) k1 s1 n1 op1 ns1 xa xb xc .nil), r, p - ans.length, by rw [Fx.app_app]; exact HF.out, by rw [Fx.len_app]; simp only [Fx.len]; go_num, by rw [HSel.out]; exact hJs (_, p) _ _ _ HJ.out HT5.out.1 HT5.out.2 (by dsimp only; omega) (by omega), hKs _ _ HK.out HT5.out.1, by omega⟩)
                        | (case measure => simp [intOf]; omega)
                    | false =>
                      have HSel := Lib.hid (show (f1.app (.cons (.alt ak ast an1 ans) k1 s1 n1 op1 ns1 xa xb xc .nil)).sel (altSees x k s) = (f1.sel (altSees x k s)).app (.cons (.alt ak ast an1 ans) k1 s1 n1 op1 ns1 xa xb xc .nil) by rw [sel_app]; simp only [Fx.sel, HA.out, hn, Bool.not_false, if_true])
                      have HSelV := Lib.hid (show vis x k s ns a b c = ((a.app b).app (f1.sel (altSees x k s))).app (.cons (.alt ak ast an1 ans) k1 s1 n1 op1 ns1 xa xb xc (r.sel (altSees x k s))) by rw [HV.out, HF.out, sel_app, Fx.app_app (a.app b)]; simp only [Fx.sel, HA.out, hn, Bool.not_false, if_true])
                      have hpcost : ((⟨bb, oo + f1.len * 12 + 4, .alt ak ast an1 ans, k1, s1, n1, op1, ns1, xa, xb, xc⟩ : Pt).cost : Int) + lo ≤ p - ans.length := by simp only [Pt.cost]; omega
                      have HOk := Lib.hid (show okPt M w0 (vis x k s ns a b c) lo ((a.app b).app (f1.sel (altSees x k s)), p - ans.length) ⟨bb, oo + f1.len * 12 + 4, .alt ak ast an1 ans, k1, s1, n1, op1, ns1, xa, xb, xc⟩ from ⟨⟨_, HSelV.out⟩, ⟨_, _, _, _, HX.out⟩, hpcost⟩)
                      clear hpcost
                      gi_wp2_with fail
                      have hmx : Tryz.prog.follows .mixedOrders = true := by kernel_rfl
                      gi_region_with_o (first
                        | (refine ⟨trivial, ?_⟩; gi_at_call 49; have hcon := among_any cb kb _ ans x p _ M hansl (HAV.out.keep ((HT.out.ct (Ct.drew cb wr)).keep)) hM hMr HCt.out.drew ⟨hp0', hpm⟩; rw [hn] at hcon; refine (callsIn_wide.2 hcon).mono ?_; clear hcon; rintro e w5 ⟨rfl, ct5, cr5⟩; have HT5 := Lib.hid (And.intro ((Ct.drew cb wr).trans ct5) cr5); have q5 := HC.out _ (HT.out.ct ((Ct.drew cb wr).trans ct5)); have g2' := q5.2.1; have g7' := q5.2.2.2.2.2.2.2; obtain ⟨fn, tmps, assign, body, hy, hR⟩ := hY _ _ _ (hJs (_, p) _ _ (p - ans.length) HJ.out ((Ct.drew cb wr).trans ct5) cr5 (by dsimp only; omega) (by omega)) (hKs _ _ HK.out ((Ct.drew cb wr).trans ct5)) HOk.out; simp only [Pt.enc] at hy; clear ct5 cr5 q5)
                        | (refine hR.mono ?_; rintro e W3 ⟨rfl, t', hn3, hj3, hk3⟩; have HN := Lib.hid hn3; have HJ3 := Lib.hid hj3; have HK3 := Lib.hid hk3; clear hn3 hj3 hk3 hR hy))
                      all_goals gi_wp2_with fail
                      all_goals go_roundw
                      all_goals first
                        | (case rel =>
                            obtain ⟨f', p'⟩ := t'
                            obtain ⟨h1, h2, h3⟩ := HN.out
                            dsimp only at h1 h2 h3
                            subst h1
                            exact ⟨f1.app (.cons (.alt ak ast an1 ans) k1 s1 n1 op1 ns1 xa xb xc .nil), r, p', by rw [Fx.app_app]; exact HF.out, by rw [Fx.len_app]; simp only [Fx.len]; go_num, by rw [HSel.out, ← Fx.app_app]; exact HJ3.out, HK3.out, by simp only [Pt.cost] at h2; omega⟩)
                        | (case measure => simp [intOf]; omega)
          | false =>
            have HCn := Lib.hid (HO.out.2.2.2 hk6)
            gi_wp2_with fail
            refine wpIn_wide.2 ?_
            go_quiet (fail)
            gi_wp2_with fail
            gi_loopw [81] (fun i wr => i = .int .i64 0 ∧ J (a.app b, p) wr ∧ K wr) (fun _ _ => 0)
            case atStart => exact ⟨rfl, hJs (a.app b, p) _ _ _ HJ.out ((Ct.refl cb wr).same rfl rfl rfl rfl) (hJc _ _ HJ.out).1 (Int.le_refl _) (by omega), hKs _ _ HK.out ((Ct.refl cb wr).same rfl rfl rfl rfl)⟩
            case round =>
              obtain ⟨rfl, hj, hk⟩ := hrel
              have HJ2 := Lib.hid hj
              have HK2 := Lib.hid hk
              have hcl : ¬ 0 < c.len := by rw [HCn.out]; decide
              clear hj hk
              gi_wp2_with fail
              go_end0
              first
                | exact ⟨⟨_, rfl⟩, (a.app b, p), by rw [HV.out, HCn.out, sel_nil, Fx.app_nil], HJ2.out, HK2.out⟩
                | exact ⟨⟨_, rfl⟩, ⟨p, by rw [HV.out, HCn.out, sel_nil, Fx.app_nil]; exact HJ2.out⟩, HK2.out⟩
        | cons p1 k1 s1 n1 op1 ns1 xa xb xc r =>
          have hlt : f1.len < b.len := by simp only [Fx.len] at hfl; omega
          obtain ⟨bb, oo, wn, wa, wb, wc, rfl, hbb, hlc, hcm, _, _, c0, c1, c2, c3, c4, c5, c6, c7, hx⟩ := fx_at HE.out.ex.b HF.out
          simp only [Nat.reduceAdd] at c0 c1 c2 c3 c4 c5 c6 c7
          rw [cost_cons] at hp
          obtain ⟨fn, tmps, assign, body, hy, hR⟩ := hY (a.app f1, p) ⟨bb, oo + f1.len * 9 + 1, p1, k1, s1, n1, op1, ns1, xa, xb, xc⟩ wr HJ.out HK.out
            ⟨⟨r.app (c.sel (altSees x k s)), by rw [HV.out, HF.out, ← Fx.app_app, Fx.app_app]; rfl⟩, ⟨_, _, _, _, hbb, c0, c1, c2, c3, c4, c5, c6, c7, hx⟩, by simp only [Pt.cost]; omega⟩
          simp only [Pt.enc] at hy
          unfold maxLen at hcm
          clear hx c0 c1 c2 c3 c4 c5 c6 c7 hfl hf hj hk hJ
          gi_wp2_with fail
          refine hR.mono ?_
          rintro e W3 ⟨rfl, t', hn, hj3, hk3⟩
          have HN := Lib.hid hn
          have HJ3 := Lib.hid hj3
          have HK3 := Lib.hid hk3
          clear hn hj3 hk3 hR hy
          gi_wp2_with fail
          go_roundw
          case rel =>
            obtain ⟨f', p'⟩ := t'
            obtain ⟨h1, h2, h3⟩ := HN.out
            dsimp only at h1 h2 h3
            subst h1
            exact ⟨f1.app (.cons p1 k1 s1 n1 op1 ns1 xa xb xc .nil), r, p', by rw [Fx.app_app]; exact HF.out, by rw [Fx.len_app]; simp only [Fx.len]; go_num, by rw [← Fx.app_app]; exact HJ3.out, HK3.out, by simp only [Pt.cost] at h2; omega⟩
          case measure => simp [intOf]; omega
    | cons p1 k1 s1 n1 op1 ns1 xa xb xc r =>
      have hlt : f1.len < a.len := by simp only [Fx.len] at hfl; omega
      obtain ⟨bb, oo, wn, wa, wb, wc, rfl, hbb, hlc, hcm, _, _, c0, c1, c2, c3, c4, c5, c6, c7, hx⟩ := fx_at HE.out.ex.a HF.out
      simp only [Nat.add_zero, Nat.zero_add] at c0 c1 c2 c3 c4 c5 c6 c7
      rw [cost_cons] at hp
      obtain ⟨fn, tmps, assign, body, hy, hR⟩ := hY (f1, p) ⟨bb, oo + f1.len * 8, p1, k1, s1, n1, op1, ns1, xa, xb, xc⟩ wr HJ.out HK.out
        ⟨⟨r.app (b.app (c.sel (altSees x k s))), by rw [HV.out, HF.out, Fx.app_app, Fx.app_app]; rfl⟩, ⟨_, _, _, _, hbb, c0, c1, c2, c3, c4, c5, c6, c7, hx⟩, by simp only [Pt.cost]; omega⟩
      simp only [Pt.enc] at hy
      unfold maxLen at hcm
      clear hx c0 c1 c2 c3 c4 c5 c6 c7 hfl
      gi_wp2_with fail
      refine hR.mono ?_
      rintro e W3 ⟨rfl, t', hn, hj3, hk3⟩
      have HN := Lib.hid hn
      have HJ3 := Lib.hid hj3
      have HK3 := Lib.hid hk3
      clear hn hj3 hk3 hR hy
      gi_wp2_with fail
      go_roundw
      case rel =>
        obtain ⟨f', p'⟩ := t'
        obtain ⟨h1, h2, h3⟩ := HN.out
        dsimp only at h1 h2 h3
        subst h1
        exact ⟨_, r, p', by rw [Fx.app_app]; exact HF.out, by rw [Fx.len_app]; simp only [Pt.fx, Fx.len]; go_num, HJ3.out, HK3.out, by simp only [Pt.cost] at h2; omega⟩
      case measure => simp [intOf]; omega
end Go.Proofs.YtfcogjlojfcfkaaGreat
