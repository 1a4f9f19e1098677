/- The contract of the reference's parts. No condition but a bound on how many expressions there are. -/
import Derived.Test.YtfcogjlojfcfkaaGreatMA
section
namespace Go.Proofs.YtfcogjlojfcfkaaGreat
open Go.RowKit Ex0

theorem info_ex : (Tryz.prog.info? 27).map (fun i => (i.zero, i.size, i.bytes)) = some (some (.agg #[.int .i64 0, .string ⟨#[]⟩, .int .i64 0, .int .i64 0, .slice none 0 0, .slice none 0 0, .slice none 0 0, .slice none 0 0]), 8, 136) := by kernel_rfl
theorem under_exs : Tryz.prog.underlying 23 = some (.slice 27) := by kernel_rfl
theorem info_of {P : Program} {e : TypeId} {z : Value} {n m : Nat} (h : (P.info? e).map (fun i => (i.zero, i.size, i.bytes)) = some (some z, n, m)) : ∃ i, P.info? e = some i ∧ i.zero = some z ∧ i.size = n ∧ i.bytes = m := by
  obtain ⟨i, hi, he⟩ := Option.map_eq_some_iff.1 h
  simp only [Prod.mk.injEq] at he
  exact ⟨i, hi, he.1, he.2.1, he.2.2⟩

/-- What parts answers. -/
def PartsPost (f : Fx) (w : World) (e : Ending) (w' : World) : Prop := ∃ v, e = .returned v ∧ FxV (Old w'.heap.size) w' 0 v f ∧ Below w.heap.size w w'

theorem ex_news (w : World) (k : Int) (s : List UInt8) (n op : Int) (vn va vb vc : Value) : ∀ j u, [Value.int .i64 k, .string (bt s), .int .i64 n, .int .i64 op, vn, va, vb, vc][j]? = some u → (w.alloc (exBox k s n op vn va vb vc)).cell? ((⟨w.heap.size, 0, none⟩ : Addr).add j) = some u := by
  have h : (w.alloc (exBox k s n op vn va vb vc)).heap[w.heap.size]? = some (.cells #[.int .i64 k, .string (bt s), .int .i64 n, .int .i64 op, vn, va, vb, vc] 27 (0, 0)) := by
    show (w.heap.push _)[w.heap.size]? = _
    simp [exBox]
  exact World.news_of_block h

set_option maxHeartbeats 2000000 in
set_option maxRecDepth 100000 in
theorem parts_any (k : Int) (s : List UInt8) (nn op : Int) (vn va vb vc : Value) (ns : List (List UInt8)) (a b c : Fx) (w : World) (hb : (parts a b c).count ≤ 1048576) (hv : ExV (Old w.heap.size) w vn va vb vc ns a b c) :
    Calls Tryz.prog 44 #[exV k s nn op vn va vb vc] w (PartsPost (parts a b c).bare w) := by
  obtain ⟨an, cn, rfl⟩ := hv.ns.slice
  obtain ⟨aa, ca, rfl⟩ := hv.a.slice
  obtain ⟨ab, cb, rfl⟩ := hv.b.slice
  obtain ⟨ac, cc, rfl⟩ := hv.c.slice
  obtain ⟨i0, hi, hz0, hz1, hz2⟩ := info_of info_ex
  have HV := Lib.hid hv
  have hlen : a.len + b.len + c.len ≤ 1048576 := by have := (parts a b c).len_le; rw [parts_len] at this; omega
  have HI := Lib.hid (And.intro hi (And.intro hz0 (And.intro hz1 hz2)))
  clear hv hi hz0 hz1 hz2
  unfold exV
  go_enter Tryz.func44, Tryz.ntmps44
  go_wp2_with (at_builtin; refine wpList_append_fx (w.heap.size + 1) rfl _ _ _ rfl 27 i0 _ under_exs HI.out.1 HI.out.2.1 HI.out.2.2.1 HI.out.2.2.2 rfl (ok := Old w.heap.size) (f := a) rfl rfl (HV.out.a.keep (keep_below (below_alloc' w _) fun _ h => h)) (by omega) (by simp) ?_; intro u1 w1 cs1 hr1 ho1 hg1)
  have HB1 := Lib.hid (show Below (w.heap.size + 1) (w.alloc (exBox k s nn op (.slice an ns.length cn) (.slice aa a.len ca) (.slice ab b.len cb) (.slice ac c.len cc))) w1 from (Below.refl _ _).grown hg1 (by simp) (fun q hq => by cases hq))
  have HR1 := Lib.hid (hr1.keep (keep_below ((Below.refl w.heap.size _).grown hg1 (by simp) (fun q hq => by cases hq)) fun _ h => h) : FxRow (Old w.heap.size) w1 a cs1)
  have HO1 := Lib.hid ho1
  clear hr1 ho1 hg1
  go_loopw [3, 4] (fun u i wr => ∃ (p r : Fx) (cs : List Value), b = p.app r ∧ i = .int .i64 p.len ∧ wr.ownsRow (w.heap.size + 1) 27 8 u (a.app p).len cs ∧ FxRow (Old w.heap.size) wr (a.app p) cs ∧ Below (w.heap.size + 1) (w.alloc (exBox k s nn op (.slice an ns.length cn) (.slice aa a.len ca) (.slice ab b.len cb) (.slice ac c.len cc))) wr) (fun _ i _ => b.len - (intOf i).toNat)
  case atStart => exact ⟨.nil, b, _, rfl, rfl, by exact (Fx.app_nil a).symm ▸ HO1.out, by exact (Fx.app_nil a).symm ▸ HR1.out, HB1.out⟩
  case round =>
    obtain ⟨p, r, cs, hf, rfl, hown, hrow, hbel⟩ := hrel
    have HW := hbel.size
    simp only [World.size_alloc] at HW
    obtain ⟨b0, b1, b2, b3, b4, b5, b6, b7⟩ := exBox_cell (Nat.lt_succ_self _) hbel
    have HB := Lib.hid hbel
    have HB2 := Lib.hid (below_old hbel)
    have HF := Lib.hid hf
    have HO := Lib.hid hown
    have HR := Lib.hid hrow
    have hdl : (a.app p).len ≤ 1048576 := by have := congrArg Fx.len hf; rw [Fx.len_app] at this; rw [Fx.len_app]; omega
    clear hbel hf hown hrow
    by_cases hlt : p.len < b.len
    · obtain ⟨p1, k1, s1, n1, op1, ns1, x, y, z, r1, rfl⟩ := fx_cons_of HF.out hlt
      obtain ⟨bb, oo, xn, xa, xb, xc, rfl, hbb, hlc, hcm, hlt1, _, c0, c1, c2, c3, c4, c5, c6, c7, hx⟩ := fx_at (HV.out.b.keep (keep_below HB2.out fun _ h => h)) HF.out
      obtain ⟨yn, qn, rfl⟩ := hx.ns.slice
      obtain ⟨ya, qa, rfl⟩ := hx.a.slice
      obtain ⟨yb, qb, rfl⟩ := hx.b.slice
      obtain ⟨yc, qc, rfl⟩ := hx.c.slice
      have HX := Lib.hid hx
      have hbb' : bb < w.heap.size := hbb
      clear hx hbb
      simp only [Nat.reduceAdd] at c0 c1 c2 c3 c4 c5 c6 c7
      go_wp2_with (at_builtin; refine wpList_append_lies _ rfl _ _ _ rfl (w.heap.size + 1) 27 i0 _ 8 136 under_exs HI.out.1 HI.out.2.1 HI.out.2.2.1 HI.out.2.2.2 rfl (by decide) u3 (a.app p).len cs rfl (HO.out.alloc _) ⟨wr.heap.size, 0, none⟩ 1 1 [.int .i64 k1, .string (bt s1), .int .i64 n1, .int .i64 op1, .slice yn ns1.length qn, .slice ya x.len qa, .slice yb y.len qb, .slice yc z.len qc] rfl rfl (ex_news wr k1 s1 n1 op1 _ _ _ _) (FxRow.one (ok := Old w.heap.size) (w := wr) (f := .cons .no k1 s1 n1 op1 ns1 x y z .nil) ⟨_, _, _, _, [], rfl, HX.out, rfl⟩) (by omega) (by simp [maxLen]; omega) (by omega) (by simp; omega) _ rfl ?_; intro g6 cap6 w6 hown6 hgrow hat hlt6)
      have HB6 := Lib.hid (show Below (w.heap.size + 1) (w.alloc (exBox k s nn op (.slice an ns.length cn) (.slice aa a.len ca) (.slice (some ⟨bb, oo, none⟩) b.len cb) (.slice ac c.len cc))) w6 from (HB.out.alloc HW _).grown hgrow (by simp; omega) (fun q hq => (HO.out.lt q hq).1))
      have hstep : Below w.heap.size wr w6 := ((below_alloc' wr _).mono (by omega)).trans (((Below.refl w.heap.size _).grown hgrow (by simp; omega) (fun q hq => by have := (HO.out.lt q hq).1; omega)))
      have HR6 := Lib.hid (show FxRow (Old w.heap.size) w6 (a.app (p.app (.cons p1 k1 s1 n1 op1 ns1 x y z .nil))) (cs ++ [.int .i64 k1, .string (bt s1), .int .i64 n1, .int .i64 op1, .slice yn ns1.length qn, .slice ya x.len qa, .slice yb y.len qb, .slice yc z.len qc]) by
        rw [← Fx.app_app]
        exact FxRow.app (g := .cons p1 k1 s1 n1 op1 ns1 x y z .nil) ⟨_, _, _, _, [], rfl, HX.out.keep (keep_below hstep fun _ h => h), rfl⟩ (HR.out.keep (keep_below hstep fun _ h => h)))
      have HO6 := Lib.hid (show w6.ownsRow (w.heap.size + 1) 27 8 (.slice (some ⟨g6, 0, none⟩) ((a.app p).len + 1) cap6) (a.app (p.app (.cons p1 k1 s1 n1 op1 ns1 x y z .nil))).len _ by
        have e : (a.app (p.app (.cons p1 k1 s1 n1 op1 ns1 x y z .nil))).len = (a.app p).len + 1 := by rw [← Fx.app_app, Fx.len_app]; rfl
        rw [e]; exact hown6)
      clear hown6 hgrow hat hstep
      go_wp2
      go_roundw
      case rel => exact ⟨p.app (.cons p1 k1 s1 n1 op1 ns1 x y z .nil), r1, _, by rw [Fx.app_app]; exact HF.out, by rw [Fx.len_app]; simp only [Fx.len]; go_num, HO6.out, HR6.out, HB6.out⟩
      case measure => simp [intOf]; omega
    · have e1 := fx_nil_of HF.out hlt
      subst e1
      rw [Fx.app_nil] at HF
      obtain rfl := HF.out
      go_wp2_with fail
      go_loopw [3, 5] (fun u i wr => ∃ (p r : Fx) (cs : List Value), c = p.app r ∧ i = .int .i64 p.len ∧ wr.ownsRow (w.heap.size + 1) 27 8 u ((a.app b).app p).len cs ∧ FxRow (Old w.heap.size) wr ((a.app b).app p) cs ∧ Below (w.heap.size + 1) (w.alloc (exBox k s nn op (.slice an ns.length cn) (.slice aa a.len ca) (.slice ab b.len cb) (.slice ac c.len cc))) wr) (fun _ i _ => c.len - (intOf i).toNat)
      case atStart => exact ⟨.nil, c, _, rfl, rfl, by exact (Fx.app_nil (a.app b)).symm ▸ HO.out, by exact (Fx.app_nil (a.app b)).symm ▸ HR.out, HB.out⟩
      case round =>
        obtain ⟨p, r, cs, hf, rfl, hown, hrow, hbel⟩ := hrel
        have HW := hbel.size
        simp only [World.size_alloc] at HW
        obtain ⟨b0, b1, b2, b3, b4, b5, b6, b7⟩ := exBox_cell (Nat.lt_succ_self _) hbel
        have HB := Lib.hid hbel
        have HB2 := Lib.hid (below_old hbel)
        have HF := Lib.hid hf
        have HO := Lib.hid hown
        have HR := Lib.hid hrow
        have hdl : ((a.app b).app p).len ≤ 1048576 := by have := congrArg Fx.len hf; rw [Fx.len_app] at this; rw [Fx.len_app, Fx.len_app]; omega
        clear hbel hf hown hrow
        by_cases hlt : p.len < c.len
        · obtain ⟨p1, k1, s1, n1, op1, ns1, x, y, z, r1, rfl⟩ := fx_cons_of HF.out hlt
          obtain ⟨bb, oo, xn, xa, xb, xc, rfl, hbb, hlc, hcm, hlt1, _, c0, c1, c2, c3, c4, c5, c6, c7, hx⟩ := fx_at (HV.out.c.keep (keep_below HB2.out fun _ h => h)) HF.out
          obtain ⟨yn, qn, rfl⟩ := hx.ns.slice
          obtain ⟨ya, qa, rfl⟩ := hx.a.slice
          obtain ⟨yb, qb, rfl⟩ := hx.b.slice
          obtain ⟨yc, qc, rfl⟩ := hx.c.slice
          have HX := Lib.hid hx
          have hbb' : bb < w.heap.size := hbb
          clear hx hbb
          simp only [Nat.reduceAdd] at c0 c1 c2 c3 c4 c5 c6 c7
          go_wp2_with (at_builtin; refine wpList_append_lies _ rfl _ _ _ rfl (w.heap.size + 1) 27 i0 _ 8 136 under_exs HI.out.1 HI.out.2.1 HI.out.2.2.1 HI.out.2.2.2 rfl (by decide) u3 ((a.app b).app p).len cs rfl (HO.out.alloc _) ⟨wr.heap.size, 0, none⟩ 1 1 [.int .i64 k1, .string (bt s1), .int .i64 n1, .int .i64 op1, .slice yn ns1.length qn, .slice ya x.len qa, .slice yb y.len qb, .slice yc z.len qc] rfl rfl (ex_news wr k1 s1 n1 op1 _ _ _ _) (FxRow.one (ok := Old w.heap.size) (w := wr) (f := .cons .no k1 s1 n1 op1 ns1 x y z .nil) ⟨_, _, _, _, [], rfl, HX.out, rfl⟩) (by omega) (by simp [maxLen]; omega) (by omega) (by simp; omega) _ rfl ?_; intro g6 cap6 w6 hown6 hgrow hat hlt6)
          have HB6 := Lib.hid (show Below (w.heap.size + 1) (w.alloc (exBox k s nn op (.slice an ns.length cn) (.slice aa a.len ca) (.slice ab b.len cb) (.slice (some ⟨bb, oo, none⟩) c.len cc))) w6 from (HB.out.alloc HW _).grown hgrow (by simp; omega) (fun q hq => (HO.out.lt q hq).1))
          have hstep : Below w.heap.size wr w6 := ((below_alloc' wr _).mono (by omega)).trans (((Below.refl w.heap.size _).grown hgrow (by simp; omega) (fun q hq => by have := (HO.out.lt q hq).1; omega)))
          have HR6 := Lib.hid (show FxRow (Old w.heap.size) w6 ((a.app b).app (p.app (.cons p1 k1 s1 n1 op1 ns1 x y z .nil))) (cs ++ [.int .i64 k1, .string (bt s1), .int .i64 n1, .int .i64 op1, .slice yn ns1.length qn, .slice ya x.len qa, .slice yb y.len qb, .slice yc z.len qc]) by
            rw [← Fx.app_app]
            exact FxRow.app (g := .cons p1 k1 s1 n1 op1 ns1 x y z .nil) ⟨_, _, _, _, [], rfl, HX.out.keep (keep_below hstep fun _ h => h), rfl⟩ (HR.out.keep (keep_below hstep fun _ h => h)))
          have HO6 := Lib.hid (show w6.ownsRow (w.heap.size + 1) 27 8 (.slice (some ⟨g6, 0, none⟩) (((a.app b).app p).len + 1) cap6) ((a.app b).app (p.app (.cons p1 k1 s1 n1 op1 ns1 x y z .nil))).len _ by
            have e : ((a.app b).app (p.app (.cons p1 k1 s1 n1 op1 ns1 x y z .nil))).len = ((a.app b).app p).len + 1 := by rw [← Fx.app_app, Fx.len_app]; rfl
            rw [e]; exact hown6)
          clear hown6 hgrow hat hstep
          go_wp2
          go_roundw
          case rel => exact ⟨p.app (.cons p1 k1 s1 n1 op1 ns1 x y z .nil), r1, _, by rw [Fx.app_app]; exact HF.out, by rw [Fx.len_app]; simp only [Fx.len]; go_num, HO6.out, HR6.out, HB6.out⟩
          case measure => simp [intOf]; omega
        · have e1 := fx_nil_of HF.out hlt
          subst e1
          rw [Fx.app_nil] at HF
          obtain rfl := HF.out
          go_wp2_with fail
          go_ret
          refine ⟨_, rfl, ?_, below_old HB.out⟩
          have e : (parts a b c).bare = ((a.app b).app c).bare := by rw [Fx.app_app]; rfl
          rw [e]
          exact HR.out.value HO.out rfl (fun b h => Nat.lt_of_lt_of_le h HB2.out.size) (fun g hg => (HO.out.lt g hg).2)
end Go.Proofs.YtfcogjlojfcfkaaGreat
end

section
namespace Go.Proofs.YtfcogjlojfcfkaaGreat
open Go.RowKit Ex0

/-- How many arguments an operation has. -/
def argsN (op : Int) : Int := if 1 ≤ op ∧ op ≤ 8 then 2 else if op = 10 then 1 else if op = 9 ∨ op = 11 then 0 else -1
theorem args_any (op : Int) (w : World) : Calls Tryz.prog 43 #[.int .i64 op] w fun e w' => e = .returned (.int .i64 (argsN op)) ∧ w = w' := by
  by_cases h1 : 1 ≤ op
  · by_cases h8 : op ≤ 8
    · have e : argsN op = 2 := by unfold argsN; rw [if_pos ⟨h1, h8⟩]
      rw [e]
      have t1 : decide ((1 : Int) ≤ op) = true := by simpa using h1
      have t2 : decide (op ≤ 8) = true := by simpa using h8
      clear e
      go_enter Tryz.func43, Tryz.ntmps43
      go_wp2_with fail
      go_ret
      exact ⟨rfl, rfl⟩
    · have t1 : decide ((1 : Int) ≤ op) = true := by simpa using h1
      have t2 : decide (op ≤ 8) = false := by simpa using h8
      by_cases h10 : op = 10
      · subst h10
        go_enter Tryz.func43, Tryz.ntmps43
        go_wp2_with fail
        go_ret
        exact ⟨rfl, rfl⟩
      · by_cases h9 : op = 9
        · subst h9
          go_enter Tryz.func43, Tryz.ntmps43
          go_wp2_with fail
          go_ret
          exact ⟨rfl, rfl⟩
        · by_cases h11 : op = 11
          · subst h11
            go_enter Tryz.func43, Tryz.ntmps43
            go_wp2_with fail
            go_ret
            exact ⟨rfl, rfl⟩
          · have e : argsN op = -1 := by unfold argsN; rw [if_neg (by omega), if_neg h10, if_neg (by omega)]
            rw [e]
            have t3 : (op == 10) = false := by simpa using h10
            have t4 : (op == 9) = false := by simpa using h9
            have t5 : (op == 11) = false := by simpa using h11
            clear e
            go_enter Tryz.func43, Tryz.ntmps43
            go_wp2_with fail
            go_ret
            exact ⟨rfl, rfl⟩
  · have e : argsN op = -1 := by unfold argsN; rw [if_neg (by omega), if_neg (by omega), if_neg (by omega)]
    rw [e]
    have t1 : decide ((1 : Int) ≤ op) = false := by simpa using h1
    have t3 : (op == 10) = false := by simp; omega
    have t4 : (op == 9) = false := by simp; omega
    have t5 : (op == 11) = false := by simp; omega
    clear e
    go_enter Tryz.func43, Tryz.ntmps43
    go_wp2_with fail
    go_ret
    exact ⟨rfl, rfl⟩

/-- Has an expression as many parts as it must? -/
def wholeOwn (k op : Int) (ns : List (List UInt8)) (la lb : Nat) (lc : Nat) : Bool :=
  !((k == 3 && ((ns.length : Int) == 0)) || (k == 4 && decide ((la : Int) < 2)) || (k == 5 && ((lb : Int) == 0)) || (k == 6 && ((lc : Int) == 0)) || (k == 8 && ((la : Int) != argsN op)))
/-- And all in a row. -/
def Fxwhole : Fx → Bool
  | .nil => true
  | .cons _ k _ _ op ns a b c r => (wholeOwn k op ns a.len b.len c.len && (Fxwhole a && (Fxwhole b && Fxwhole c))) && Fxwhole r
theorem whole_app (f g : Fx) : Fxwhole (f.app g) = (Fxwhole f && Fxwhole g) := by
  induction f with
  | nil => rfl
  | cons p k s n op ns a b c r _ _ _ ih => simp only [Fx.app, Fxwhole, ih, Bool.and_assoc]
theorem whole_bare (f : Fx) : Fxwhole f.bare = Fxwhole f := by
  induction f with
  | nil => rfl
  | cons p k s n op ns a b c r _ _ _ ih => simp only [Fx.bare, Fxwhole, ih]
def wholeB (k op : Int) (ns : List (List UInt8)) (a b c : Fx) : Bool := wholeOwn k op ns a.len b.len c.len && Fxwhole (parts a b c).bare
theorem whole_cons (p : Pre) (k : Int) (s : List UInt8) (n op : Int) (ns : List (List UInt8)) (a b c r : Fx) : Fxwhole (.cons p k s n op ns a b c r) = (wholeB k op ns a b c && Fxwhole r) := by
  unfold wholeB parts
  rw [whole_bare, whole_app, whole_app]
  rfl

set_option maxHeartbeats 2000000 in
set_option maxRecDepth 100000 in
theorem whole_any (n : Nat) : ∀ (k : Int) (s : List UInt8) (nn op : Int) (vn va vb vc : Value) (ns : List (List UInt8)) (a b c : Fx) (w : World), (parts a b c).count < n → (parts a b c).count ≤ 1048576 →
    ExV (Old w.heap.size) w vn va vb vc ns a b c → Calls Tryz.prog 22 #[exV k s nn op vn va vb vc] w fun e w' => e = .returned (.bool (wholeB k op ns a b c)) ∧ Below w.heap.size w w' := by
  induction n with
  | zero => intro _ _ _ _ _ _ _ _ _ _ _ _ _ h; omega
  | succ n ih =>
    intro k s nn op vn va vb vc ns a b c w hn hb hv
    obtain ⟨an, cn, rfl⟩ := hv.ns.slice
    obtain ⟨aa, ca, rfl⟩ := hv.a.slice
    obtain ⟨ab, cb, rfl⟩ := hv.b.slice
    obtain ⟨ac, cc, rfl⟩ := hv.c.slice
    have HV := Lib.hid hv
    clear hv
    unfold exV
    go_enter Tryz.func22, Tryz.ntmps22
    go_upto_region 1 with fail
    go_cut [60] (fun s60 wx => s60 = .bool (!wholeOwn k op ns a.len b.len c.len) ∧ Below (w.heap.size + 1) (w.alloc (exBox k s nn op (.slice an ns.length cn) (.slice aa a.len ca) (.slice ab b.len cb) (.slice ac c.len cc))) wx)
    case first =>
      by_cases hk : k = 3
      · have t3 : (k == 3) = true := by simp [hk]
        have t4 : (k == 4) = false := by simp [hk]
        have t5 : (k == 5) = false := by simp [hk]
        have t6 : (k == 6) = false := by simp [hk]
        have t8 : (k == 8) = false := by simp [hk]
        clear hk
        cases t : ((ns.length : Int) == 0) with
        | true =>
          have HT := Lib.hid (show wholeOwn k op ns a.len b.len c.len = false by unfold wholeOwn; rw [t3, t4, t5, t6, t8, t]; simp)
          go_quiet (fail)
          all_goals (go_wp2_with fail; go_meet; exact ⟨by rw [HT.out]; rfl, by exact below_drewN (Below.refl _ _) _⟩)
        | false =>
          have HT := Lib.hid (show wholeOwn k op ns a.len b.len c.len = true by unfold wholeOwn; rw [t3, t4, t5, t6, t8, t]; simp)
          go_quiet (fail)
          all_goals (go_wp2_with fail; go_meet; exact ⟨by rw [HT.out]; rfl, by exact below_drewN (Below.refl _ _) _⟩)
      · have t3 : (k == 3) = false := by simpa using hk
        clear hk
        by_cases hk : k = 4
        · have t3 : (k == 3) = false := by simp [hk]
          have t4 : (k == 4) = true := by simp [hk]
          have t5 : (k == 5) = false := by simp [hk]
          have t6 : (k == 6) = false := by simp [hk]
          have t8 : (k == 8) = false := by simp [hk]
          clear hk
          cases t : decide ((a.len : Int) < 2) with
          | true =>
            have HT := Lib.hid (show wholeOwn k op ns a.len b.len c.len = false by unfold wholeOwn; rw [t3, t4, t5, t6, t8, t]; simp)
            go_quiet (fail)
            all_goals (go_wp2_with fail; go_meet; exact ⟨by rw [HT.out]; rfl, by exact below_drewN (Below.refl _ _) _⟩)
          | false =>
            have HT := Lib.hid (show wholeOwn k op ns a.len b.len c.len = true by unfold wholeOwn; rw [t3, t4, t5, t6, t8, t]; simp)
            go_quiet (fail)
            all_goals (go_wp2_with fail; go_meet; exact ⟨by rw [HT.out]; rfl, by exact below_drewN (Below.refl _ _) _⟩)
        · have t4 : (k == 4) = false := by simpa using hk
          clear hk
          by_cases hk : k = 5
          · have t3 : (k == 3) = false := by simp [hk]
            have t4 : (k == 4) = false := by simp [hk]
            have t5 : (k == 5) = true := by simp [hk]
            have t6 : (k == 6) = false := by simp [hk]
            have t8 : (k == 8) = false := by simp [hk]
            clear hk
            cases t : ((b.len : Int) == 0) with
            | true =>
              have HT := Lib.hid (show wholeOwn k op ns a.len b.len c.len = false by unfold wholeOwn; rw [t3, t4, t5, t6, t8, t]; simp)
              go_quiet (fail)
              all_goals (go_wp2_with fail; go_meet; exact ⟨by rw [HT.out]; rfl, by exact below_drewN (Below.refl _ _) _⟩)
            | false =>
              have HT := Lib.hid (show wholeOwn k op ns a.len b.len c.len = true by unfold wholeOwn; rw [t3, t4, t5, t6, t8, t]; simp)
              go_quiet (fail)
              all_goals (go_wp2_with fail; go_meet; exact ⟨by rw [HT.out]; rfl, by exact below_drewN (Below.refl _ _) _⟩)
          · have t5 : (k == 5) = false := by simpa using hk
            clear hk
            by_cases hk : k = 6
            · have t3 : (k == 3) = false := by simp [hk]
              have t4 : (k == 4) = false := by simp [hk]
              have t5 : (k == 5) = false := by simp [hk]
              have t6 : (k == 6) = true := by simp [hk]
              have t8 : (k == 8) = false := by simp [hk]
              clear hk
              cases t : ((c.len : Int) == 0) with
              | true =>
                have HT := Lib.hid (show wholeOwn k op ns a.len b.len c.len = false by unfold wholeOwn; rw [t3, t4, t5, t6, t8, t]; simp)
                go_quiet (fail)
                all_goals (go_wp2_with fail; go_meet; exact ⟨by rw [HT.out]; rfl, by exact below_drewN (Below.refl _ _) _⟩)
              | false =>
                have HT := Lib.hid (show wholeOwn k op ns a.len b.len c.len = true by unfold wholeOwn; rw [t3, t4, t5, t6, t8, t]; simp)
                go_quiet (fail)
                all_goals (go_wp2_with fail; go_meet; exact ⟨by rw [HT.out]; rfl, by exact below_drewN (Below.refl _ _) _⟩)
            · have t6 : (k == 6) = false := by simpa using hk
              clear hk
              by_cases hk : k = 8
              · have t3 : (k == 3) = false := by simp [hk]
                have t4 : (k == 4) = false := by simp [hk]
                have t5 : (k == 5) = false := by simp [hk]
                have t6 : (k == 6) = false := by simp [hk]
                have t8 : (k == 8) = true := by simp [hk]
                clear hk
                cases t : ((a.len : Int) != argsN op) with
                | true =>
                  have HT := Lib.hid (show wholeOwn k op ns a.len b.len c.len = false by unfold wholeOwn; rw [t3, t4, t5, t6, t8, t]; simp)
                  go_quiet ((go_at_call 43; exact Calls.quiet_of_same ((args_any _ _).mono fun _ _ h => ⟨h.1, h.2.symm⟩)))
                  all_goals (go_wp2_with fail; go_meet; exact ⟨by rw [HT.out]; rfl, by exact below_drewN (Below.refl _ _) _⟩)
                | false =>
                  have HT := Lib.hid (show wholeOwn k op ns a.len b.len c.len = true by unfold wholeOwn; rw [t3, t4, t5, t6, t8, t]; simp)
                  go_quiet ((go_at_call 43; exact Calls.quiet_of_same ((args_any _ _).mono fun _ _ h => ⟨h.1, h.2.symm⟩)))
                  all_goals (go_wp2_with fail; go_meet; exact ⟨by rw [HT.out]; rfl, by exact below_drewN (Below.refl _ _) _⟩)
              · have t8 : (k == 8) = false := by simpa using hk
                clear hk
                have HT := Lib.hid (show wholeOwn k op ns a.len b.len c.len = true by unfold wholeOwn; rw [t3, t4, t5, t6, t8]; simp)
                go_quiet (fail)
                all_goals (go_wp2_with fail; go_meet; exact ⟨by rw [HT.out]; rfl, by exact below_drewN (Below.refl _ _) _⟩)
    case rest =>
      obtain ⟨rfl, hbel⟩ := hcut
      have HB := Lib.hid hbel
      have HB2 := Lib.hid (below_old hbel)
      have HW := hbel.size
      simp only [World.size_alloc] at HW
      obtain ⟨b0, b1, b2, b3, b4, b5, b6, b7⟩ := exBox_cell (Nat.lt_succ_self _) hbel
      clear hbel
      cases hown : wholeOwn k op ns a.len b.len c.len with
      | false =>
        have HT := Lib.hid (show wholeB k op ns a b c = false by unfold wholeB; rw [hown]; rfl)
        clear hown
        go_wp2_with fail
        go_ret
        exact ⟨by rw [HT.out]; rfl, HB2.out⟩
      | true =>
        have HT := Lib.hid (show wholeB k op ns a b c = Fxwhole (parts a b c).bare by unfold wholeB; rw [hown]; rfl)
        clear hown
        go_wp2_with ((go_at_call 44; refine (parts_any k s nn op _ _ _ _ ns a b c _ hb (HV.out.keep (keep_up HB2.out (Nat.le_refl _)))).mono ?_; rintro e w3 ⟨v3, rfl, hv3, hb3⟩))
        obtain ⟨F, hF⟩ : ∃ F, F = (parts a b c).bare := ⟨_, rfl⟩
        rw [← hF] at hv3 HT
        have hFc : F.count = (parts a b c).count := by rw [hF, Fx.count_bare]
        have hFl := F.len_le
        obtain ⟨a3, c3, rfl⟩ := hv3.slice
        have HV3 := Lib.hid hv3
        have HB3 := Lib.hid (blwS HB2.out hb3 HB2.out.size)
        have HFc := Lib.hid hFc
        clear hv3 hb3 hF b0 b1 b2 b3 b4 b5 b6 b7
        have hfl : F.len ≤ 1048576 := by omega
        clear hFc hFl
        go_loopw [4] (fun i wr => ∃ f1 f2 : Fx, F = f1.app f2 ∧ i = .int .i64 f1.len ∧ Fxwhole f1 = true ∧ Below w3.heap.size w3 wr) (fun i _ => F.len - (intOf i).toNat)
        case atStart => exact ⟨.nil, F, rfl, rfl, rfl, Below.refl _ _⟩
        case round =>
          obtain ⟨f1, f2, hf, rfl, hw1, hbel⟩ := hrel
          have HBr := Lib.hid hbel
          have HF := Lib.hid hf
          have HL := Lib.hid (congrArg Fx.len hf)
          have HW1 := Lib.hid hw1
          clear hbel hf hw1
          by_cases hlt : f1.len < F.len
          · obtain ⟨p1, k1, s1, n1, op1, ns1, x, y, z, r1, rfl⟩ := fx_cons_of HF.out hlt
            obtain ⟨bb, oo, xn, xa, xb, xc, rfl, hbb, hlc, hcm, hlt1, _, c0, c1, c2, c3', c4, c5, c6, c7, hx⟩ := fx_at (HV3.out.keep (keep_up HBr.out (Nat.le_refl _))) HF.out
            obtain ⟨yn, qn, rfl⟩ := hx.ns.slice
            obtain ⟨ya, qa, rfl⟩ := hx.a.slice
            obtain ⟨yb, qb, rfl⟩ := hx.b.slice
            obtain ⟨yc, qc, rfl⟩ := hx.c.slice
            have HX := Lib.hid hx
            have hbb' : bb < wr.heap.size := hbb
            clear hx hbb
            simp only [Nat.add_zero, Nat.zero_add] at c0 c1 c2 c3' c4 c5 c6 c7
            have hcx : (parts x y z).count < n ∧ (parts x y z).count ≤ 1048576 := by
              have := congrArg Fx.count HF.out
              rw [Fx.count_app, HFc.out] at this
              simp only [Fx.count] at this
              rw [parts_count x y z]; omega
            obtain ⟨hcx1, hcx2⟩ := hcx
            go_wp2_with fail
            refine (ih k1 s1 n1 op1 _ _ _ _ ns1 x y z _ hcx1 hcx2 HX.out).mono ?_
            rintro e w4 ⟨rfl, hb4⟩
            have HB4 := Lib.hid (blwS HBr.out hb4 HBr.out.size)
            clear hb4
            cases hr : wholeB k1 op1 ns1 x y z with
            | false =>
              have HR := Lib.hid hr
              clear hr
              go_wp2_with fail
              go_ret
              refine ⟨?_, blwS HB3.out HB4.out HB3.out.size⟩
              rw [HT.out, HF.out, whole_app, whole_cons, HR.out]
              simp
            | true =>
              have HR := Lib.hid hr
              clear hr
              go_wp2_with fail
              go_roundw
              case rel => exact ⟨f1.app (.cons p1 k1 s1 n1 op1 ns1 x y z .nil), r1, by rw [Fx.app_app]; exact HF.out, by rw [Fx.len_app]; simp only [Fx.len]; go_num, by rw [whole_app, whole_cons, HR.out, HW1.out]; rfl, HB4.out⟩
              case measure => simp [intOf]; omega
          · have e1 := fx_nil_of HF.out hlt
            go_wp2_with fail
            go_ret
            refine ⟨?_, blwS HB3.out HBr.out HB3.out.size⟩
            rw [HT.out, HF.out, e1, Fx.app_nil, HW1.out]
            rfl
end Go.Proofs.YtfcogjlojfcfkaaGreat
end

section
namespace Go.Proofs.YtfcogjlojfcfkaaGreat
open Go.RowKit Ex0

def nameB (k : Int) : Bool := (k == 1) || (k == 6) || (k == 7)
def subsB (k : Int) : Bool := (k == 4) || (k == 7) || (k == 8)
def oneB (k : Int) : Bool := (k == 3) || (k == 5) || (k == 6)
/-- Has an expression what does not belong to it? -/
def bad1 (k : Int) (s : List UInt8) (n op : Int) (ns : List (List UInt8)) (lb lc : Nat) : Bool :=
  decide (k < 1) || decide (8 < k) || (!nameB k && !s.isEmpty) || (k != 2 && n != 0) || (k != 8 && op != 0) || (k != 3 && !ns.isEmpty) || (k != 5 && decide (0 < lb)) || (k != 6 && decide (0 < lc))
def bad2 (k op : Int) (la : Nat) : Bool := (oneB k && (la != 1)) || (!oneB k && !subsB k && decide (0 < la)) || ((k == 8) && decide (argsN op < 0))
def altOk : Pre → Bool
  | .alt k s n ns => !(decide (k < 1) || decide (3 < k) || (k != 1 && (!s.isEmpty || !ns.isEmpty)) || (k != 2 && n != 0))
  | _ => true
def altsOk : Fx → Bool
  | .nil => true
  | .cons p _ _ _ _ _ _ _ _ r => altOk p && altsOk r
theorem alts_app (f g : Fx) : altsOk (f.app g) = (altsOk f && altsOk g) := by
  induction f with
  | nil => rfl
  | cons p k s n op ns a b c r _ _ _ ih => simp only [Fx.app, altsOk, ih, Bool.and_assoc]
def ownB (k : Int) (s : List UInt8) (n op : Int) (ns : List (List UInt8)) (la lb : Nat) (c : Fx) : Bool := !bad1 k s n op ns lb c.len && !bad2 k op la && altsOk c
def Fxshape : Fx → Bool
  | .nil => true
  | .cons _ k s n op ns a b c r => (ownB k s n op ns a.len b.len c && (Fxshape a && (Fxshape b && Fxshape c))) && Fxshape r
theorem shape_app (f g : Fx) : Fxshape (f.app g) = (Fxshape f && Fxshape g) := by
  induction f with
  | nil => rfl
  | cons p k s n op ns a b c r _ _ _ ih => simp only [Fx.app, Fxshape, ih, Bool.and_assoc]
theorem shape_bare (f : Fx) : Fxshape f.bare = Fxshape f := by
  induction f with
  | nil => rfl
  | cons p k s n op ns a b c r _ _ _ ih => simp only [Fx.bare, Fxshape, ih]
def shapeB (k : Int) (s : List UInt8) (n op : Int) (ns : List (List UInt8)) (a b c : Fx) : Bool := ownB k s n op ns a.len b.len c && Fxshape (parts a b c).bare
theorem shape_cons (p : Pre) (k : Int) (s : List UInt8) (n op : Int) (ns : List (List UInt8)) (a b c r : Fx) : Fxshape (.cons p k s n op ns a b c r) = (shapeB k s n op ns a b c && Fxshape r) := by
  unfold shapeB parts
  rw [shape_bare, shape_app, shape_app]
  rfl
/-- What shape answers for expressions with fewer parts than n. -/
def ShapeC (n : Nat) : Prop := ∀ (k : Int) (s : List UInt8) (nn op : Int) (vn va vb vc : Value) (ns : List (List UInt8)) (a b c : Fx) (w : World), (parts a b c).count < n → (parts a b c).count ≤ 1048576 →
    ExV (Old w.heap.size) w vn va vb vc ns a b c → Calls Tryz.prog 21 #[exV k s nn op vn va vb vc] w fun e w' => e = .returned (.bool (shapeB k s nn op ns a b c)) ∧ Below w.heap.size w w'
end Go.Proofs.YtfcogjlojfcfkaaGreat
end

section
namespace Go.Proofs.YtfcogjlojfcfkaaGreat
open Go.RowKit Ex0
attribute [local go_sem] bt_size bt_list bt_toList
set_option maxHeartbeats 4000000 in
set_option maxRecDepth 100000 in
theorem shape_0 (k : Int) (hk : k < 1 ∨ 8 < k) (n : Nat) (s : List UInt8) (nn op : Int) (vn va vb vc : Value) (ns : List (List UInt8)) (a b c : Fx) (w : World) (hn : (parts a b c).count < n + 1) (hb : (parts a b c).count ≤ 1048576)
    (hv : ExV (Old w.heap.size) w vn va vb vc ns a b c) : Calls Tryz.prog 21 #[exV k s nn op vn va vb vc] w fun e w' => e = .returned (.bool (shapeB k s nn op ns a b c)) ∧ Below w.heap.size w w' := by
  obtain ⟨an, cn, rfl⟩ := hv.ns.slice
  obtain ⟨aa, ca, rfl⟩ := hv.a.slice
  obtain ⟨ab, cb, rfl⟩ := hv.b.slice
  obtain ⟨ac, cc, rfl⟩ := hv.c.slice
  have HV := Lib.hid hv
  clear hv
  unfold exV
  have k1 : (k == 1) = false := by simp; omega
  have k2 : (k == 2) = false := by simp; omega
  have k3 : (k == 3) = false := by simp; omega
  have k4 : (k == 4) = false := by simp; omega
  have k5 : (k == 5) = false := by simp; omega
  have k6 : (k == 6) = false := by simp; omega
  have k7 : (k == 7) = false := by simp; omega
  have k8 : (k == 8) = false := by simp; omega
  have HT := Lib.hid (show shapeB k s nn op ns a b c = false by rcases hk with hk | hk <;> simp [shapeB, ownB, bad1, hk])
  by_cases hk1 : k < 1
  · have l1 : decide (k < 1) = true := decide_eq_true hk1
    clear hk
    go_enter Tryz.func21, Tryz.ntmps21
    simp only [List.append]
    go_wp2_with fail
    go_ret
    exact ⟨by rw [HT.out]; rfl, below_alloc' _ _⟩
  · have l1 : decide (k < 1) = false := decide_eq_false hk1
    have l8 : decide (8 < k) = true := decide_eq_true (by omega)
    clear hk
    go_enter Tryz.func21, Tryz.ntmps21
    simp only [List.append]
    go_wp2_with fail
    go_ret
    exact ⟨by rw [HT.out]; rfl, below_alloc' _ _⟩
end Go.Proofs.YtfcogjlojfcfkaaGreat
end
