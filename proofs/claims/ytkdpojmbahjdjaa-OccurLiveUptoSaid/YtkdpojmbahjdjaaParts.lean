/- The contract of the reference's parts. No condition but a bound on how many expressions there are. -/
import Derived.Test.YtkdpojmbahjdjaaExRow
namespace Go.Proofs.Ytkdpojmbahjdjaa
open Go.RowKit Ex0

theorem info_ex : (Try.prog.info? 27).map (fun i => (i.zero, i.size, i.bytes)) = some (some (.agg #[.int .i64 0, .string ⟨#[]⟩, .int .i64 0, .int .i64 0, .slice none 0 0, .slice none 0 0, .slice none 0 0, .slice none 0 0]), 8, 136) := by kernel_rfl
theorem under_exs : Try.prog.underlying 23 = some (.slice 27) := by kernel_rfl
theorem info_of {P : Program} {e : TypeId} {z : Value} {n m : Nat} (h : (P.info? e).map (fun i => (i.zero, i.size, i.bytes)) = some (some z, n, m)) : ∃ i, P.info? e = some i ∧ i.zero = some z ∧ i.size = n ∧ i.bytes = m := by
  obtain ⟨i, hi, he⟩ := Option.map_eq_some_iff.1 h
  simp only [Prod.mk.injEq] at he
  exact ⟨i, hi, he.1, he.2.1, he.2.2⟩

/-- What parts answers. -/
def PartsPost (f : Fx) (w : World) (e : Ending) (w' : World) : Prop := ∃ v, e = .returned v ∧ FxV (Old w'.heap.size) w' 0 v f ∧ Below w.heap.size w w'

theorem ex_news (w : World) (k : Int) (s : List UInt8) (n op : Int) (vn va vb vc : Value) : ∀ j u, [Value.int .i64 k, .string (bt s), .int .i64 n, .int .i64 op, vn, va, vb, vc][j]? = some u → (w.alloc (exBox k s n op vn va vb vc)).cell? ((⟨w.heap.size, 0, none⟩ : Addr).add j) = some u := by
  have h : (w.alloc (exBox k s n op vn va vb vc)).heap[w.heap.size]? = some (.cells #[.int .i64 k, .string (bt s), .int .i64 n, .int .i64 op, vn, va, vb, vc] 27 (0, 0)) := by
    show (w.heap.push _)[w.heap.size]? = _
    simp [exBox]
  exact World.news_of_block h

set_option maxHeartbeats 2000000 in
set_option maxRecDepth 100000 in
theorem parts_any (k : Int) (s : List UInt8) (nn op : Int) (vn va vb vc : Value) (ns : List (List UInt8)) (a b c : Fx) (w : World) (hb : (parts a b c).count ≤ 1048576) (hv : ExV (Old w.heap.size) w vn va vb vc ns a b c) :
    Calls Try.prog 26 #[exV k s nn op vn va vb vc] w (PartsPost (parts a b c).bare w) := by
  obtain ⟨an, cn, rfl⟩ := hv.ns.slice
  obtain ⟨aa, ca, rfl⟩ := hv.a.slice
  obtain ⟨ab, cb, rfl⟩ := hv.b.slice
  obtain ⟨ac, cc, rfl⟩ := hv.c.slice
  obtain ⟨i0, hi, hz0, hz1, hz2⟩ := info_of info_ex
  have HV := Lib.hid hv
  have hlen : a.len + b.len + c.len ≤ 1048576 := by have := (parts a b c).len_le; rw [parts_len] at this; omega
  have HI := Lib.hid (And.intro hi (And.intro hz0 (And.intro hz1 hz2)))
  clear hv hi hz0 hz1 hz2
  unfold exV
  go_enter Try.func26, Try.ntmps26
  go_wp2_with (at_builtin; refine wpList_append_fx (w.heap.size + 1) rfl _ _ _ rfl 27 i0 _ under_exs HI.out.1 HI.out.2.1 HI.out.2.2.1 HI.out.2.2.2 rfl (ok := Old w.heap.size) (f := a) rfl rfl (HV.out.a.keep (keep_below (below_alloc' w _) fun _ h => h)) (by omega) (by simp) ?_; intro u1 w1 cs1 hr1 ho1 hg1)
  have HB1 := Lib.hid (show Below (w.heap.size + 1) (w.alloc (exBox k s nn op (.slice an ns.length cn) (.slice aa a.len ca) (.slice ab b.len cb) (.slice ac c.len cc))) w1 from (Below.refl _ _).grown hg1 (by simp) (fun q hq => by cases hq))
  have HR1 := Lib.hid (hr1.keep (keep_below ((Below.refl w.heap.size _).grown hg1 (by simp) (fun q hq => by cases hq)) fun _ h => h) : FxRow (Old w.heap.size) w1 a cs1)
  have HO1 := Lib.hid ho1
  clear hr1 ho1 hg1
  go_loopw [3, 4] (fun u i wr => ∃ (p r : Fx) (cs : List Value), b = p.app r ∧ i = .int .i64 p.len ∧ wr.ownsRow (w.heap.size + 1) 27 8 u (a.app p).len cs ∧ FxRow (Old w.heap.size) wr (a.app p) cs ∧ Below (w.heap.size + 1) (w.alloc (exBox k s nn op (.slice an ns.length cn) (.slice aa a.len ca) (.slice ab b.len cb) (.slice ac c.len cc))) wr) (fun _ i _ => b.len - (intOf i).toNat)
  case atStart => exact ⟨.nil, b, _, rfl, rfl, by exact (Fx.app_nil a).symm ▸ HO1.out, by exact (Fx.app_nil a).symm ▸ HR1.out, HB1.out⟩
  case round =>
    obtain ⟨p, r, cs, hf, rfl, hown, hrow, hbel⟩ := hrel
    have HW := hbel.size
    simp only [World.size_alloc] at HW
    obtain ⟨b0, b1, b2, b3, b4, b5, b6, b7⟩ := exBox_cell (Nat.lt_succ_self _) hbel
    have HB := Lib.hid hbel
    have HB2 := Lib.hid (below_old hbel)
    have HF := Lib.hid hf
    have HO := Lib.hid hown
    have HR := Lib.hid hrow
    have hdl : (a.app p).len ≤ 1048576 := by have := congrArg Fx.len hf; rw [Fx.len_app] at this; rw [Fx.len_app]; omega
    clear hbel hf hown hrow
    by_cases hlt : p.len < b.len
    · obtain ⟨p1, k1, s1, n1, op1, ns1, x, y, z, r1, rfl⟩ := fx_cons_of HF.out hlt
      obtain ⟨bb, oo, xn, xa, xb, xc, rfl, hbb, hlc, hcm, hlt1, _, c0, c1, c2, c3, c4, c5, c6, c7, hx⟩ := fx_at (HV.out.b.keep (keep_below HB2.out fun _ h => h)) HF.out
      obtain ⟨yn, qn, rfl⟩ := hx.ns.slice
      obtain ⟨ya, qa, rfl⟩ := hx.a.slice
      obtain ⟨yb, qb, rfl⟩ := hx.b.slice
      obtain ⟨yc, qc, rfl⟩ := hx.c.slice
      have HX := Lib.hid hx
      have hbb' : bb < w.heap.size := hbb
      clear hx hbb
      simp only [Nat.reduceAdd] at c0 c1 c2 c3 c4 c5 c6 c7
      go_wp2_with (at_builtin; refine wpList_append_lies _ rfl _ _ _ rfl (w.heap.size + 1) 27 i0 _ 8 136 under_exs HI.out.1 HI.out.2.1 HI.out.2.2.1 HI.out.2.2.2 rfl (by decide) u3 (a.app p).len cs rfl (HO.out.alloc _) ⟨wr.heap.size, 0, none⟩ 1 1 [.int .i64 k1, .string (bt s1), .int .i64 n1, .int .i64 op1, .slice yn ns1.length qn, .slice ya x.len qa, .slice yb y.len qb, .slice yc z.len qc] rfl rfl (ex_news wr k1 s1 n1 op1 _ _ _ _) (FxRow.one (ok := Old w.heap.size) (w := wr) (f := .cons .no k1 s1 n1 op1 ns1 x y z .nil) ⟨_, _, _, _, [], rfl, HX.out, rfl⟩) (by omega) (by simp [maxLen]; omega) (by omega) (by simp; omega) _ rfl ?_; intro g6 cap6 w6 hown6 hgrow hat hlt6)
      have HB6 := Lib.hid (show Below (w.heap.size + 1) (w.alloc (exBox k s nn op (.slice an ns.length cn) (.slice aa a.len ca) (.slice (some ⟨bb, oo, none⟩) b.len cb) (.slice ac c.len cc))) w6 from (HB.out.alloc HW _).grown hgrow (by simp; omega) (fun q hq => (HO.out.lt q hq).1))
      have hstep : Below w.heap.size wr w6 := ((below_alloc' wr _).mono (by omega)).trans (((Below.refl w.heap.size _).grown hgrow (by simp; omega) (fun q hq => by have := (HO.out.lt q hq).1; omega)))
      have HR6 := Lib.hid (show FxRow (Old w.heap.size) w6 (a.app (p.app (.cons p1 k1 s1 n1 op1 ns1 x y z .nil))) (cs ++ [.int .i64 k1, .string (bt s1), .int .i64 n1, .int .i64 op1, .slice yn ns1.length qn, .slice ya x.len qa, .slice yb y.len qb, .slice yc z.len qc]) by
        rw [← Fx.app_app]
        exact FxRow.app (g := .cons p1 k1 s1 n1 op1 ns1 x y z .nil) ⟨_, _, _, _, [], rfl, HX.out.keep (keep_below hstep fun _ h => h), rfl⟩ (HR.out.keep (keep_below hstep fun _ h => h)))
      have HO6 := Lib.hid (show w6.ownsRow (w.heap.size + 1) 27 8 (.slice (some ⟨g6, 0, none⟩) ((a.app p).len + 1) cap6) (a.app (p.app (.cons p1 k1 s1 n1 op1 ns1 x y z .nil))).len _ by
        have e : (a.app (p.app (.cons p1 k1 s1 n1 op1 ns1 x y z .nil))).len = (a.app p).len + 1 := by rw [← Fx.app_app, Fx.len_app]; rfl
        rw [e]; exact hown6)
      clear hown6 hgrow hat hstep
      go_wp2
      go_roundw
      case rel => exact ⟨p.app (.cons p1 k1 s1 n1 op1 ns1 x y z .nil), r1, _, by rw [Fx.app_app]; exact HF.out, by rw [Fx.len_app]; simp only [Fx.len]; go_num, HO6.out, HR6.out, HB6.out⟩
      case measure => simp [intOf]; omega
    · have e1 := fx_nil_of HF.out hlt
      subst e1
      rw [Fx.app_nil] at HF
      obtain rfl := HF.out
      go_wp2_with fail
      go_loopw [3, 5] (fun u i wr => ∃ (p r : Fx) (cs : List Value), c = p.app r ∧ i = .int .i64 p.len ∧ wr.ownsRow (w.heap.size + 1) 27 8 u ((a.app b).app p).len cs ∧ FxRow (Old w.heap.size) wr ((a.app b).app p) cs ∧ Below (w.heap.size + 1) (w.alloc (exBox k s nn op (.slice an ns.length cn) (.slice aa a.len ca) (.slice ab b.len cb) (.slice ac c.len cc))) wr) (fun _ i _ => c.len - (intOf i).toNat)
      case atStart => exact ⟨.nil, c, _, rfl, rfl, by exact (Fx.app_nil (a.app b)).symm ▸ HO.out, by exact (Fx.app_nil (a.app b)).symm ▸ HR.out, HB.out⟩
      case round =>
        obtain ⟨p, r, cs, hf, rfl, hown, hrow, hbel⟩ := hrel
        have HW := hbel.size
        simp only [World.size_alloc] at HW
        obtain ⟨b0, b1, b2, b3, b4, b5, b6, b7⟩ := exBox_cell (Nat.lt_succ_self _) hbel
        have HB := Lib.hid hbel
        have HB2 := Lib.hid (below_old hbel)
        have HF := Lib.hid hf
        have HO := Lib.hid hown
        have HR := Lib.hid hrow
        have hdl : ((a.app b).app p).len ≤ 1048576 := by have := congrArg Fx.len hf; rw [Fx.len_app] at this; rw [Fx.len_app, Fx.len_app]; omega
        clear hbel hf hown hrow
        by_cases hlt : p.len < c.len
        · obtain ⟨p1, k1, s1, n1, op1, ns1, x, y, z, r1, rfl⟩ := fx_cons_of HF.out hlt
          obtain ⟨bb, oo, xn, xa, xb, xc, rfl, hbb, hlc, hcm, hlt1, _, c0, c1, c2, c3, c4, c5, c6, c7, hx⟩ := fx_at (HV.out.c.keep (keep_below HB2.out fun _ h => h)) HF.out
          obtain ⟨yn, qn, rfl⟩ := hx.ns.slice
          obtain ⟨ya, qa, rfl⟩ := hx.a.slice
          obtain ⟨yb, qb, rfl⟩ := hx.b.slice
          obtain ⟨yc, qc, rfl⟩ := hx.c.slice
          have HX := Lib.hid hx
          have hbb' : bb < w.heap.size := hbb
          clear hx hbb
          simp only [Nat.reduceAdd] at c0 c1 c2 c3 c4 c5 c6 c7
          go_wp2_with (at_builtin; refine wpList_append_lies _ rfl _ _ _ rfl (w.heap.size + 1) 27 i0 _ 8 136 under_exs HI.out.1 HI.out.2.1 HI.out.2.2.1 HI.out.2.2.2 rfl (by decide) u3 ((a.app b).app p).len cs rfl (HO.out.alloc _) ⟨wr.heap.size, 0, none⟩ 1 1 [.int .i64 k1, .string (bt s1), .int .i64 n1, .int .i64 op1, .slice yn ns1.length qn, .slice ya x.len qa, .slice yb y.len qb, .slice yc z.len qc] rfl rfl (ex_news wr k1 s1 n1 op1 _ _ _ _) (FxRow.one (ok := Old w.heap.size) (w := wr) (f := .cons .no k1 s1 n1 op1 ns1 x y z .nil) ⟨_, _, _, _, [], rfl, HX.out, rfl⟩) (by omega) (by simp [maxLen]; omega) (by omega) (by simp; omega) _ rfl ?_; intro g6 cap6 w6 hown6 hgrow hat hlt6)
          have HB6 := Lib.hid (show Below (w.heap.size + 1) (w.alloc (exBox k s nn op (.slice an ns.length cn) (.slice aa a.len ca) (.slice ab b.len cb) (.slice (some ⟨bb, oo, none⟩) c.len cc))) w6 from (HB.out.alloc HW _).grown hgrow (by simp; omega) (fun q hq => (HO.out.lt q hq).1))
          have hstep : Below w.heap.size wr w6 := ((below_alloc' wr _).mono (by omega)).trans (((Below.refl w.heap.size _).grown hgrow (by simp; omega) (fun q hq => by have := (HO.out.lt q hq).1; omega)))
          have HR6 := Lib.hid (show FxRow (Old w.heap.size) w6 ((a.app b).app (p.app (.cons p1 k1 s1 n1 op1 ns1 x y z .nil))) (cs ++ [.int .i64 k1, .string (bt s1), .int .i64 n1, .int .i64 op1, .slice yn ns1.length qn, .slice ya x.len qa, .slice yb y.len qb, .slice yc z.len qc]) by
            rw [← Fx.app_app]
            exact FxRow.app (g := .cons p1 k1 s1 n1 op1 ns1 x y z .nil) ⟨_, _, _, _, [], rfl, HX.out.keep (keep_below hstep fun _ h => h), rfl⟩ (HR.out.keep (keep_below hstep fun _ h => h)))
          have HO6 := Lib.hid (show w6.ownsRow (w.heap.size + 1) 27 8 (.slice (some ⟨g6, 0, none⟩) (((a.app b).app p).len + 1) cap6) ((a.app b).app (p.app (.cons p1 k1 s1 n1 op1 ns1 x y z .nil))).len _ by
            have e : ((a.app b).app (p.app (.cons p1 k1 s1 n1 op1 ns1 x y z .nil))).len = ((a.app b).app p).len + 1 := by rw [← Fx.app_app, Fx.len_app]; rfl
            rw [e]; exact hown6)
          clear hown6 hgrow hat hstep
          go_wp2
          go_roundw
          case rel => exact ⟨p.app (.cons p1 k1 s1 n1 op1 ns1 x y z .nil), r1, _, by rw [Fx.app_app]; exact HF.out, by rw [Fx.len_app]; simp only [Fx.len]; go_num, HO6.out, HR6.out, HB6.out⟩
          case measure => simp [intOf]; omega
        · have e1 := fx_nil_of HF.out hlt
          subst e1
          rw [Fx.app_nil] at HF
          obtain rfl := HF.out
          go_wp2_with fail
          go_ret
          refine ⟨_, rfl, ?_, below_old HB.out⟩
          have e : (parts a b c).bare = ((a.app b).app c).bare := by rw [Fx.app_app]; rfl
          rw [e]
          exact HR.out.value HO.out rfl (fun b h => Nat.lt_of_lt_of_le h HB2.out.size) (fun g hg => (HO.out.lt g hg).2)
end Go.Proofs.Ytkdpojmbahjdjaa
