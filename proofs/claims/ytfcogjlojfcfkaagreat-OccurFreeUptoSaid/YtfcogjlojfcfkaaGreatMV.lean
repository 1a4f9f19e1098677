/- The small functions of package core's measurer, at every expression. Bounds on how many parts there are. -/
import Derived.Test.YtfcogjlojfcfkaaGreatMQ
import Derived.Test.YtfcogjlojfcfkaaGreatMS
import Derived.Test.YtfcogjlojfcfkaaGreatMU
import Derived.WalkSmall
import Derived.Test.YtfcogjlojfcfkaaGreatMO
import Derived.Maps.Views
section
namespace Go.Proofs.YtfcogjlojfcfkaaGreat
open Go.RowKit Ex0
attribute [local go_sem] bt_size bt_list bt_toList

theorem sum_any (x y : Int) (W : World) (hx : 0 ≤ x) (hx2 : x ≤ 9223372036854775807) (hy : 0 ≤ y) (hy2 : y ≤ 9223372036854775807) :
    Calls Tryz.prog 58 #[.int .i64 x, .int .i64 y] W fun e w' => e = .returned (.int .i64 (if x + y ≤ 9223372036854775807 then x + y else 9223372036854775807)) ∧ W = w' := by
  by_cases h : x > 9223372036854775807 - y
  · rw [if_neg (by omega)]
    have hd : decide (x > 9223372036854775807 - y) = true := decide_eq_true h
    have hd2 : decide (9223372036854775807 - y < x) = true := decide_eq_true (by omega)
    go_enter Tryz.func58, Tryz.ntmps58
    go_wp2_with fail
    go_ret
    exact ⟨rfl, rfl⟩
  · rw [if_pos (by omega)]
    have hd : decide (x > 9223372036854775807 - y) = false := decide_eq_false h
    have hd2 : decide (9223372036854775807 - y < x) = false := decide_eq_false (by omega)
    go_enter Tryz.func58, Tryz.ntmps58
    go_wp2_with fail
    go_ret
    exact ⟨by go_num, rfl⟩

theorem children_any {M bk of : Nat} {k : Int} {s : List UInt8} {n op : Int} {vn va vb vc : Value} {ns : List (List UInt8)} {a b c : Fx} {W : World} (h : ExL M W bk of k s n op vn va vb vc ns a b c) (hlen : a.len + b.len + c.len ≤ 1048576) :
    Calls Tryz.prog 31 #[.pointer (some ⟨bk, of, none⟩)] W fun e w' => e = .returned (.int .i64 ((a.len + b.len + c.len : Nat) : Int)) ∧ ∃ n, w' = W.drewN n := by
  obtain ⟨aa, ca, rfl⟩ := h.ex.a.slice
  obtain ⟨ab, cb, rfl⟩ := h.ex.b.slice
  obtain ⟨ac, cc, rfl⟩ := h.ex.c.slice
  obtain ⟨_, c0, c1, c2, c3, c4, c5, c6, c7, _⟩ := h
  go_enter Tryz.func31, Tryz.ntmps31
  go_wp2_with fail
  go_quiet (fail)
  go_wp2_with fail
  go_ret
  exact ⟨by go_num, _, rfl⟩

set_option maxHeartbeats 1000000 in
theorem child_any {M bk of : Nat} {k : Int} {s : List UInt8} {n op : Int} {vn va vb vc : Value} {ns : List (List UInt8)} {a b c : Fx} {W : World} {f1 r x y z : Fx} {p : Pre} {k1 : Int} {s1 : List UInt8} {n1 op1 : Int} {ns1 : List (List UInt8)}
    (h : ExL M W bk of k s n op vn va vb vc ns a b c) (hlen : a.len + b.len + c.len ≤ 1048576) (hp : parts a b c = f1.app (.cons p k1 s1 n1 op1 ns1 x y z r)) :
    Calls Tryz.prog 34 #[.pointer (some ⟨bk, of, none⟩), .int .i64 f1.len] W fun e w' => (∃ b' o' v1 v2 v3 v4, e = .returned (.pointer (some ⟨b', o', none⟩)) ∧ ExL M W b' o' k1 s1 n1 op1 v1 v2 v3 v4 ns1 x y z) ∧ ∃ n, w' = W.drewN n := by
  have HX := Lib.hid h
  obtain ⟨aa, ca, rfl⟩ := h.ex.a.slice
  obtain ⟨ab, cb, rfl⟩ := h.ex.b.slice
  obtain ⟨ac, cc, rfl⟩ := h.ex.c.slice
  obtain ⟨_, e0, e1, e2, e3, e4, e5, e6, e7, _⟩ := h
  rcases place_of hp with ⟨hl, r', e⟩ | ⟨g, h1, hl, r', e⟩ | ⟨g, h1, hl, r', e⟩
  · obtain ⟨bb, oo, wn, wa, wb, wc, hv, hbb, hlc, hcm, _, _, c0, c1, c2, c3, c4, c5, c6, c7, hx⟩ := fx_at HX.out.ex.a e
    cases hv
    have HQ := Lib.hid (show ExL M W bb (oo + f1.len * 8) k1 s1 n1 op1 wn wa wb wc ns1 x y z from ⟨hbb, c0, c1, c2, c3, c4, c5, c6, c7, hx⟩)
    clear hp e c0 c1 c2 c3 c4 c5 c6 c7 hx
    unfold maxLen at hcm
    go_enter Tryz.func34, Tryz.ntmps34
    go_wp2_with fail
    go_ret
    exact ⟨⟨_, _, _, _, _, _, rfl, HQ.out⟩, 0, rfl⟩
  · obtain ⟨bb, oo, wn, wa, wb, wc, hv, hbb, hlc, hcm, _, _, c0, c1, c2, c3, c4, c5, c6, c7, hx⟩ := fx_at HX.out.ex.b e
    cases hv
    have HQ := Lib.hid (show ExL M W bb (oo + g.len * 9 + 1) k1 s1 n1 op1 wn wa wb wc ns1 x y z from ⟨hbb, c0, c1, c2, c3, c4, c5, c6, c7, hx⟩)
    clear hp e c0 c1 c2 c3 c4 c5 c6 c7 hx
    unfold maxLen at hcm
    rw [h1]
    have d1 : decide (((a.len + g.len : Nat) : Int) < a.len) = false := decide_eq_false (by omega)
    have d2 : ((a.len + g.len : Nat) : Int) - a.len = g.len := by omega
    have d3 : decide ((g.len : Int) < b.len) = true := decide_eq_true (by omega)
    go_enter Tryz.func34, Tryz.ntmps34
    go_wp2_with fail
    go_ret
    exact ⟨⟨_, _, _, _, _, _, rfl, HQ.out⟩, 0, rfl⟩
  · obtain ⟨bb, oo, wn, wa, wb, wc, hv, hbb, hlc, hcm, _, _, c0, c1, c2, c3, c4, c5, c6, c7, hx⟩ := fx_at HX.out.ex.c e
    cases hv
    have HQ := Lib.hid (show ExL M W bb (oo + g.len * 12 + 4) k1 s1 n1 op1 wn wa wb wc ns1 x y z from ⟨hbb, c0, c1, c2, c3, c4, c5, c6, c7, hx⟩)
    clear hp e c0 c1 c2 c3 c4 c5 c6 c7 hx
    unfold maxLen at hcm
    rw [h1]
    have d1 : decide (((a.len + b.len + g.len : Nat) : Int) < a.len) = false := decide_eq_false (by omega)
    have d2 : ((a.len + b.len + g.len : Nat) : Int) - a.len = ((b.len + g.len : Nat) : Int) := by omega
    have d3 : decide (((b.len + g.len : Nat) : Int) < b.len) = false := decide_eq_false (by omega)
    have d4 : ((b.len + g.len : Nat) : Int) - b.len = g.len := by omega
    go_enter Tryz.func34, Tryz.ntmps34
    go_wp2_with fail
    go_quiet (fail)
    go_wp2_with fail
    go_ret
    exact ⟨⟨_, _, _, _, _, _, rfl, by rw [show a.len + b.len + g.len - a.len - b.len = g.len by omega]; exact HQ.out⟩, _, rfl⟩

/-- The names that the alternatives bind, and the bytes of one expression without its parts. -/
def altNames : List Pre → Nat
  | [] => 0
  | .alt _ _ _ ns :: r => ns.length + altNames r
  | _ :: r => altNames r
def nameCnt (ns : List (List UInt8)) (c : Fx) : Nat := ns.length + altNames (pres c)
def ownBytes (ns : List (List UInt8)) (b c : Fx) : Nat := 136 + 56 * c.len + 16 * b.len + 16 * nameCnt ns c
theorem altNames_one (f : Fx) (k' : Int) (s' : List UInt8) (n' : Int) (ns' : List (List UInt8)) (k : Int) (s : List UInt8) (n op : Int) (ns : List (List UInt8)) (a b c : Fx) :
    altNames (pres (f.app (.cons (.alt k' s' n' ns') k s n op ns a b c .nil))) = altNames (pres f) + ns'.length := by
  induction f with
  | nil => simp [Fx.app, pres, altNames]
  | cons p k s n op ns a b c r _ _ _ ih => cases p <;> simp only [Fx.app, pres, altNames, ih] <;> omega
theorem altNames_le (f r : Fx) : altNames (pres f) ≤ altNames (pres (f.app r)) := by
  induction f with
  | nil => simp [pres, altNames]
  | cons p k s n op ns a b c r _ _ _ ih => cases p <;> simp only [Fx.app, pres, altNames] <;> omega

set_option maxHeartbeats 2000000 in
set_option maxRecDepth 100000 in
theorem extent_any {M bk of : Nat} {k : Int} {s : List UInt8} {n op : Int} {vn va vb vc : Value} {ns : List (List UInt8)} {a b c : Fx} {W : World} (h : ExL M W bk of k s n op vn va vb vc ns a b c) (hMW : M ≤ W.heap.size) (hlen : b.len + c.len + nameCnt ns c ≤ 1073741824) :
    Calls Tryz.prog 30 #[.pointer (some ⟨bk, of, none⟩)] W fun e w' => (∃ q : Int, e = .returned (.agg #[.int .i64 1, .int .i64 1, .int .i64 (ownBytes ns b c), .int .i64 q]) ∧ 0 ≤ q ∧ q ≤ ownBytes ns b c) ∧ Below W.heap.size W w' := by
  have HX := Lib.hid h
  obtain ⟨an, cn, rfl⟩ := h.ex.ns.slice
  obtain ⟨ab, cb, rfl⟩ := h.ex.b.slice
  obtain ⟨ac, cc, rfl⟩ := h.ex.c.slice
  have hlt : bk < W.heap.size := Nat.lt_of_lt_of_le h.lt hMW
  have hb1 : Below W.heap.size W (W.alloc (.cells #[.int .i64 0, .int .i64 0, .int .i64 0, .int .i64 0] 57)) := below_alloc' _ _
  have q := fun o => hb1.cell (p := ⟨bk, o, none⟩) hlt
  have p0 := (q of).trans h.c0
  have p4 := (q (of + 4)).trans h.c4
  have p6 := (q (of + 6)).trans h.c6
  have p7 := (q (of + 7)).trans h.c7
  clear h q
  go_enter Tryz.func30, Tryz.ntmps30
  go_wp2_with fail
  go_loopw [3, 16] (fun m i wr => ∃ f1 f2 : Fx, c = f1.app f2 ∧ i = .int .i64 f1.len ∧ m = .int .i64 ((ns.length + altNames (pres f1) : Nat) : Int) ∧ wr = W.alloc (.cells #[.int .i64 0, .int .i64 0, .int .i64 0, .int .i64 0] 57)) (fun _ i _ => c.len - (intOf i).toNat)
  case atStart => exact ⟨.nil, c, rfl, rfl, rfl, rfl⟩
  case round =>
    obtain ⟨f1, f2, hf, rfl, rfl, rfl⟩ := hrel
    have HF := Lib.hid hf
    have hnl := altNames_le f1 f2
    rw [← hf] at hnl
    unfold nameCnt at hlen
    by_cases hlt1 : f1.len < c.len
    · obtain ⟨p1, k1, s1, n1, op1, ns1, x, y, z, r1, rfl⟩ := fx_cons_of HF.out hlt1
      obtain ⟨bb, oo, wn, wa, wb, wc, hv, hbb, hlc, hcm, _, hpre, _⟩ := fx_at HX.out.ex.c HF.out
      cases hv
      cases p1 with
      | no => exact absurd hpre (by simp [PreAt])
      | bind s2 => exact absurd hpre.1 (by decide)
      | alt k2 s2 n2 ns2 =>
        obtain ⟨_, _, _, _, v2, hv3, hns2⟩ := hpre
        obtain ⟨a2, c2, rfl⟩ := hns2.slice
        have g3 := (hb1.cell (p := ⟨bb, oo + f1.len * 12 + 3, none⟩) (Nat.lt_of_lt_of_le hbb hMW)).trans hv3
        have hn2 := altNames_one f1 k2 s2 n2 ns2 k1 s1 n1 op1 ns1 x y z
        have hn3 := altNames_le (f1.app (.cons (.alt k2 s2 n2 ns2) k1 s1 n1 op1 ns1 x y z .nil)) r1
        rw [Fx.app_app] at hn3
        simp only [Fx.app] at hn3
        rw [← HF.out] at hn3
        unfold maxLen at hcm
        clear hv3 hns2 hnl hf
        go_wp2_with fail
        go_roundw
        case rel => exact ⟨f1.app (.cons (.alt k2 s2 n2 ns2) k1 s1 n1 op1 ns1 x y z .nil), r1, by rw [Fx.app_app]; exact HF.out, by rw [Fx.len_app]; simp only [Fx.len]; go_num, by rw [hn2]; go_num, by first | rfl | trivial⟩
        case measure => simp [intOf]; omega
    · have e1 := fx_nil_of HF.out hlt1
      subst e1
      rw [Fx.app_nil] at hf
      subst hf
      clear hnl hb1
      have r0 := fun z => cell_al (by simp; omega) p0 z
      have r6 := fun z => cell_al (by simp; omega) p6 z
      have r7 := fun z => cell_al (by simp; omega) p7 z
      go_wp2_with fail
      have w1 : IntKind.i64.wrap (56 * (c.len : Int)) = 56 * c.len := by rw [IntKind.wrap_i64]; omega
      have w2 : IntKind.i64.wrap (136 + 56 * (c.len : Int)) = 136 + 56 * c.len := by rw [IntKind.wrap_i64]; omega
      have w3 : IntKind.i64.wrap (16 * (b.len : Int)) = 16 * b.len := by rw [IntKind.wrap_i64]; omega
      have w4 : IntKind.i64.wrap (136 + 56 * (c.len : Int) + 16 * b.len) = 136 + 56 * c.len + 16 * b.len := by rw [IntKind.wrap_i64]; omega
      have w5 : IntKind.i64.wrap (16 * ((ns.length : Int) + (altNames (pres c) : Nat))) = 16 * ((ns.length : Int) + (altNames (pres c) : Nat)) := by rw [IntKind.wrap_i64]; omega
      have w6 : IntKind.i64.wrap (136 + 56 * (c.len : Int) + 16 * b.len + 16 * ((ns.length : Int) + (altNames (pres c) : Nat))) = 136 + 56 * c.len + 16 * b.len + 16 * ((ns.length : Int) + (altNames (pres c) : Nat)) := by rw [IntKind.wrap_i64]; omega
      have w7 : IntKind.i64.wrap ((ns.length : Int) + (altNames (pres c) : Nat) + b.len + 1) = (ns.length : Int) + (altNames (pres c) : Nat) + b.len + 1 := by rw [IntKind.wrap_i64]; omega
      have hob : ((ownBytes ns b c : Nat) : Int) = 136 + 56 * c.len + 16 * b.len + 16 * ((ns.length : Int) + (altNames (pres c) : Nat)) := by unfold ownBytes nameCnt; omega
      refine region_one 18 (by kernel_rfl) (by kernel_rfl) ?_
      simp only [List.take_succ_cons, List.take_zero, List.drop_succ_cons, List.drop_zero]
      refine swk_want (by rfl) (fun K hK => ?_)
      replace hK := Lib.hid hK
      go_simp
      refine hK.out _ ?_
      clear hK K
      refine swk_want (by rfl) (fun K hK => ?_)
      replace hK := Lib.hid hK
      go_simp
      refine hK.out _ ?_
      clear hK K
      refine swk_want (by rfl) (fun K hK => ?_)
      replace hK := Lib.hid hK
      go_simp
      refine hK.out _ ?_
      clear hK K
      refine swk_want (by rfl) (fun K hK => ?_)
      replace hK := Lib.hid hK
      go_simp
      refine hK.out _ ?_
      clear hK K
      refine swk_want (by rfl) (fun K hK => ?_)
      replace hK := Lib.hid hK
      go_simp
      refine hK.out _ ?_
      clear hK K
      refine swk_want (by rfl) (fun K hK => ?_)
      replace hK := Lib.hid hK
      go_simp
      refine hK.out _ ?_
      clear hK K
      refine swk_want (by rfl) (fun K hK => ?_)
      replace hK := Lib.hid hK
      go_simp
      refine hK.out _ ?_
      clear hK K
      refine swk_want (by rfl) (fun K hK => ?_)
      replace hK := Lib.hid hK
      go_simp
      refine hK.out _ ?_
      clear hK K
      refine swk_want (by rfl) (fun K hK => ?_)
      replace hK := Lib.hid hK
      go_simp
      refine hK.out _ ?_
      clear hK K
      refine swk_want (by rfl) (fun K hK => ?_)
      replace hK := Lib.hid hK
      go_simp
      refine hK.out _ ?_
      clear hK K
      refine swk_want (by rfl) (fun K hK => ?_)
      replace hK := Lib.hid hK
      go_simp
      refine hK.out _ ?_
      clear hK K
      refine swk_want (by rfl) (fun K hK => ?_)
      replace hK := Lib.hid hK
      go_simp
      refine hK.out _ ?_
      clear hK K
      refine swk_want (by rfl) (fun K hK => ?_)
      replace hK := Lib.hid hK
      go_simp
      refine hK.out _ ?_
      clear hK K
      refine swk_want (by rfl) (fun K hK => ?_)
      replace hK := Lib.hid hK
      go_simp
      refine hK.out _ ?_
      clear hK K
      refine swk_want (by rfl) (fun K hK => ?_)
      replace hK := Lib.hid hK
      go_simp
      refine hK.out _ ?_
      clear hK K
      refine swk_want (by rfl) (fun K hK => ?_)
      replace hK := Lib.hid hK
      go_simp
      refine hK.out _ ?_
      clear hK K
      refine swk_want (by rfl) (fun K hK => ?_)
      replace hK := Lib.hid hK
      go_simp
      refine hK.out _ ?_
      clear hK K
      refine swk_want (by rfl) (fun K hK => ?_)
      replace hK := Lib.hid hK
      go_simp
      refine hK.out _ ?_
      clear hK K
      refine swk_nil ?_
      refine one_want rfl (by rfl) (fun K hK => ?_)
      replace hK := Lib.hid hK
      go_simp
      refine hK.out _ _ ?_
      clear hK K
      simp only [List.take_succ_cons, List.take_zero, List.drop_succ_cons, List.drop_zero]
      refine swk_nil ?_
      cases hk : (k == 6)
      · go_wp2_with fail
        refine bodyPost_ret (results_cell_row rfl _ _ W.heap.size 57 #[.int .i64 1, .int .i64 1, .int .i64 (136 + 56 * c.len + 16 * b.len + 16 * ((ns.length : Int) + (altNames (pres c) : Nat))), .int .i64 ((ns.length : Int) + (altNames (pres c) : Nat) + b.len)] (0, 0) (.struct extFs) rfl (hp_two W _ _) under_ext rfl size_ext) rfl ?_
        exact ⟨⟨_, by rw [hob], by omega, by omega⟩, below_same ((below_alloc' W _).alloc (by simp) _) rfl rfl rfl rfl⟩
      · go_wp2_with fail
        refine bodyPost_ret (results_cell_row rfl _ _ W.heap.size 57 #[.int .i64 1, .int .i64 1, .int .i64 (136 + 56 * c.len + 16 * b.len + 16 * ((ns.length : Int) + (altNames (pres c) : Nat))), .int .i64 ((ns.length : Int) + (altNames (pres c) : Nat) + b.len + 1)] (0, 0) (.struct extFs) rfl (hp_two W _ _) under_ext rfl size_ext) rfl ?_
        exact ⟨⟨_, by rw [hob], by omega, by omega⟩, below_same ((below_alloc' W _).alloc (by simp) _) rfl rfl rfl rfl⟩

theorem mz_set (W : World) (g o : Nat) (v : Value) : W.grownBy (W.setCell ⟨g, o, none⟩ v) (some g) := by
  have hb : Below 0 W (W.setCell ⟨g, o, none⟩ v) := (Below.refl _ _).setCell (Nat.zero_le _) _
  exact ⟨hb.os, hb.tape, hb.output, hb.size, fun k _ hk => Below.heap_setCell _ _ _ _ (fun e => hk (by rw [e]))⟩
theorem mz_drew {W W' : World} {row : Option Nat} (h : W.grownBy W' row) : W.grownBy W'.drew row := ⟨h.os, h.tape, h.output, h.size, h.block⟩
theorem sum_ok (x y : Int) (W : World) (hx : 0 ≤ x) (hy : 0 ≤ y) (hxy : x + y ≤ 9223372036854775807) : Calls Tryz.prog 58 #[.int .i64 x, .int .i64 y] W fun e w' => e = .returned (.int .i64 (x + y)) ∧ W = w' := by
  have h := sum_any x y W hx (by omega) hy (by omega)
  rw [if_pos hxy] at h
  exact h

set_option maxHeartbeats 4000000 in
set_option maxRecDepth 100000 in
theorem eadd_any (g o : Nat) (s d y q s2 d2 y2 q2 : Int) (cs : Array Value) (T : TypeId) (W : World) (h : W.heap[g]? = some (.cells cs T (0, 0))) (h0 : cs[o]? = some (.int .i64 s)) (h1 : cs[o + 1]? = some (.int .i64 d)) (h2 : cs[o + 2]? = some (.int .i64 y)) (h3 : cs[o + 3]? = some (.int .i64 q))
    (hs : 0 ≤ s ∧ s ≤ y) (hd : 0 ≤ d ∧ d ≤ y) (hq : 0 ≤ q ∧ q ≤ y) (hs2 : 0 ≤ s2 ∧ s2 ≤ y2) (hd2 : 0 ≤ d2 ∧ d2 ≤ y2) (hq2 : 0 ≤ q2 ∧ q2 ≤ y2) (hy : y + y2 ≤ 1099511627776) :
    Calls Tryz.prog 33 #[.pointer (some ⟨g, o, none⟩), .agg #[.int .i64 s2, .int .i64 d2, .int .i64 y2, .int .i64 q2]] W fun e w' => (∃ v, e = .returned v) ∧
      (∃ d', w'.heap[g]? = some (.cells ((((cs.setIfInBounds o (.int .i64 (s + s2))).setIfInBounds (o + 1) (.int .i64 d')).setIfInBounds (o + 2) (.int .i64 (y + y2))).setIfInBounds (o + 3) (.int .i64 (q + q2))) T (0, 0)) ∧ 0 ≤ d' ∧ d' ≤ max d (1 + d2)) ∧ W.grownBy w' (some g) := by
  have hg : g < W.heap.size := (Array.getElem?_eq_some_iff.1 h).1
  have c0 := cell_of h o _ h0
  have c1 := cell_of h (o + 1) _ h1
  have c2 := cell_of h (o + 2) _ h2
  have c3 := cell_of h (o + 3) _ h3
  have f0 := frozen_of h o
  have f1 := frozen_of h (o + 1)
  have f2 := frozen_of h (o + 2)
  have f3 := frozen_of h (o + 3)
  have HH := Lib.hid h
  have wd : IntKind.i64.wrap (1 + d2) = 1 + d2 := by rw [IntKind.wrap_i64]; omega
  clear h h0 h1 h2 h3
  go_enter Tryz.func33, Tryz.ntmps33
  go_wp2_with fail
  refine region_one 10 (by kernel_rfl) (by kernel_rfl) ?_
  simp only [List.take_succ_cons, List.take_zero, List.drop_succ_cons, List.drop_zero]
  refine swk_want (by rfl) (fun K hK => ?_)
  replace hK := Lib.hid hK
  go_simp
  refine hK.out _ ?_
  clear hK K
  refine swk_want (by rfl) (fun K hK => ?_)
  replace hK := Lib.hid hK
  go_simp
  refine hK.out _ ?_
  clear hK K
  refine swk_want (by rfl) (fun K hK => ?_)
  replace hK := Lib.hid hK
  go_simp
  refine hK.out _ ?_
  clear hK K
  refine swk_want (by rfl) (fun K hK => ?_)
  replace hK := Lib.hid hK
  go_simp
  refine hK.out _ ?_
  clear hK K
  refine swk_want (by rfl) (fun K hK => ?_)
  replace hK := Lib.hid hK
  go_simp
  refine hK.out _ ?_
  clear hK K
  refine swk_want (by rfl) (fun K hK => ?_)
  replace hK := Lib.hid hK
  go_simp
  refine hK.out _ ?_
  clear hK K
  refine swk_want (by rfl) (fun K hK => ?_)
  replace hK := Lib.hid hK
  go_simp
  refine hK.out _ ?_
  clear hK K
  refine swk_want (by rfl) (fun K hK => ?_)
  replace hK := Lib.hid hK
  go_simp
  refine ⟨_, (sum_ok s s2 _ (by omega) (by omega) (by omega)).mono (fun _ _ h => ⟨h.1, h.2.symm⟩), ?_⟩
  refine hK.out _ ?_
  clear hK K
  refine swk_want (by rfl) (fun K hK => ?_)
  replace hK := Lib.hid hK
  go_simp
  refine hK.out _ ?_
  clear hK K
  refine swk_want (by rfl) (fun K hK => ?_)
  replace hK := Lib.hid hK
  go_simp
  refine hK.out _ ?_
  clear hK K
  refine swk_nil ?_
  refine one_want rfl (by rfl) (fun K hK => ?_)
  replace hK := Lib.hid hK
  go_simp
  refine hK.out _ _ ?_
  clear hK K
  simp only [List.take_succ_cons, List.take_zero, List.drop_succ_cons, List.drop_zero]
  refine swk_nil ?_
  go_wp2_with fail
  refine region_one 11 (by kernel_rfl) (by kernel_rfl) ?_
  simp only [List.take_succ_cons, List.take_zero, List.drop_succ_cons, List.drop_zero]
  refine swk_want (by rfl) (fun K hK => ?_)
  replace hK := Lib.hid hK
  go_simp
  refine hK.out _ ?_
  clear hK K
  refine swk_want (by rfl) (fun K hK => ?_)
  replace hK := Lib.hid hK
  go_simp
  refine hK.out _ ?_
  clear hK K
  refine swk_want (by rfl) (fun K hK => ?_)
  replace hK := Lib.hid hK
  go_simp
  refine hK.out _ ?_
  clear hK K
  refine swk_want (by rfl) (fun K hK => ?_)
  replace hK := Lib.hid hK
  go_simp
  refine hK.out _ ?_
  clear hK K
  refine swk_want (by rfl) (fun K hK => ?_)
  replace hK := Lib.hid hK
  go_simp
  refine hK.out _ ?_
  clear hK K
  refine swk_want (by rfl) (fun K hK => ?_)
  replace hK := Lib.hid hK
  go_simp
  refine hK.out _ ?_
  clear hK K
  refine swk_want (by rfl) (fun K hK => ?_)
  replace hK := Lib.hid hK
  go_simp
  refine hK.out _ ?_
  clear hK K
  refine swk_want (by rfl) (fun K hK => ?_)
  replace hK := Lib.hid hK
  go_simp
  refine hK.out _ ?_
  clear hK K
  refine swk_want (by rfl) (fun K hK => ?_)
  replace hK := Lib.hid hK
  go_simp
  refine hK.out _ ?_
  clear hK K
  refine swk_want (by rfl) (fun K hK => ?_)
  replace hK := Lib.hid hK
  go_simp
  refine hK.out _ ?_
  clear hK K
  refine swk_want (by rfl) (fun K hK => ?_)
  replace hK := Lib.hid hK
  go_simp
  refine hK.out _ ?_
  clear hK K
  refine swk_nil ?_
  refine one_want rfl (by rfl) (fun K hK => ?_)
  replace hK := Lib.hid hK
  go_simp
  refine hK.out _ _ ?_
  clear hK K
  simp only [List.take_succ_cons, List.take_zero, List.drop_succ_cons, List.drop_zero]
  refine swk_nil ?_
  go_wp2_with fail
  refine region_one 10 (by kernel_rfl) (by kernel_rfl) ?_
  simp only [List.take_succ_cons, List.take_zero, List.drop_succ_cons, List.drop_zero]
  refine swk_want (by rfl) (fun K hK => ?_)
  replace hK := Lib.hid hK
  go_simp
  refine hK.out _ ?_
  clear hK K
  refine swk_want (by rfl) (fun K hK => ?_)
  replace hK := Lib.hid hK
  go_simp
  refine hK.out _ ?_
  clear hK K
  refine swk_want (by rfl) (fun K hK => ?_)
  replace hK := Lib.hid hK
  go_simp
  refine hK.out _ ?_
  clear hK K
  refine swk_want (by rfl) (fun K hK => ?_)
  replace hK := Lib.hid hK
  go_simp
  refine hK.out _ ?_
  clear hK K
  refine swk_want (by rfl) (fun K hK => ?_)
  replace hK := Lib.hid hK
  go_simp
  refine hK.out _ ?_
  clear hK K
  refine swk_want (by rfl) (fun K hK => ?_)
  replace hK := Lib.hid hK
  go_simp
  refine hK.out _ ?_
  clear hK K
  refine swk_want (by rfl) (fun K hK => ?_)
  replace hK := Lib.hid hK
  go_simp
  refine hK.out _ ?_
  clear hK K
  refine swk_want (by rfl) (fun K hK => ?_)
  replace hK := Lib.hid hK
  go_simp
  refine ⟨_, (sum_ok y y2 _ (by omega) (by omega) (by omega)).mono (fun _ _ h => ⟨h.1, h.2.symm⟩), ?_⟩
  refine hK.out _ ?_
  clear hK K
  refine swk_want (by rfl) (fun K hK => ?_)
  replace hK := Lib.hid hK
  go_simp
  refine hK.out _ ?_
  clear hK K
  refine swk_want (by rfl) (fun K hK => ?_)
  replace hK := Lib.hid hK
  go_simp
  refine hK.out _ ?_
  clear hK K
  refine swk_nil ?_
  refine one_want rfl (by rfl) (fun K hK => ?_)
  replace hK := Lib.hid hK
  go_simp
  refine hK.out _ _ ?_
  clear hK K
  simp only [List.take_succ_cons, List.take_zero, List.drop_succ_cons, List.drop_zero]
  refine swk_nil ?_
  go_wp2_with fail
  refine region_one 10 (by kernel_rfl) (by kernel_rfl) ?_
  simp only [List.take_succ_cons, List.take_zero, List.drop_succ_cons, List.drop_zero]
  refine swk_want (by rfl) (fun K hK => ?_)
  replace hK := Lib.hid hK
  go_simp
  refine hK.out _ ?_
  clear hK K
  refine swk_want (by rfl) (fun K hK => ?_)
  replace hK := Lib.hid hK
  go_simp
  refine hK.out _ ?_
  clear hK K
  refine swk_want (by rfl) (fun K hK => ?_)
  replace hK := Lib.hid hK
  go_simp
  refine hK.out _ ?_
  clear hK K
  refine swk_want (by rfl) (fun K hK => ?_)
  replace hK := Lib.hid hK
  go_simp
  refine hK.out _ ?_
  clear hK K
  refine swk_want (by rfl) (fun K hK => ?_)
  replace hK := Lib.hid hK
  go_simp
  refine hK.out _ ?_
  clear hK K
  refine swk_want (by rfl) (fun K hK => ?_)
  replace hK := Lib.hid hK
  go_simp
  refine hK.out _ ?_
  clear hK K
  refine swk_want (by rfl) (fun K hK => ?_)
  replace hK := Lib.hid hK
  go_simp
  refine hK.out _ ?_
  clear hK K
  refine swk_want (by rfl) (fun K hK => ?_)
  replace hK := Lib.hid hK
  go_simp
  refine ⟨_, (sum_ok q q2 _ (by omega) (by omega) (by omega)).mono (fun _ _ h => ⟨h.1, h.2.symm⟩), ?_⟩
  refine hK.out _ ?_
  clear hK K
  refine swk_want (by rfl) (fun K hK => ?_)
  replace hK := Lib.hid hK
  go_simp
  refine hK.out _ ?_
  clear hK K
  refine swk_want (by rfl) (fun K hK => ?_)
  replace hK := Lib.hid hK
  go_simp
  refine hK.out _ ?_
  clear hK K
  refine swk_nil ?_
  refine one_want rfl (by rfl) (fun K hK => ?_)
  replace hK := Lib.hid hK
  go_simp
  refine hK.out _ _ ?_
  clear hK K
  simp only [List.take_succ_cons, List.take_zero, List.drop_succ_cons, List.drop_zero]
  refine swk_nil ?_
  go_wp2_with fail
  go_end0
  have hh := heap_set (o := o + 3) (heap_set (o := o + 2) (heap_set (o := o + 1) (heap_set (o := o) HH.out (.int .i64 (s + s2))) (.int .i64 (max d (1 + d2)))) (.int .i64 (y + y2))) (.int .i64 (q + q2))
  refine ⟨⟨_, rfl⟩, ⟨max d (1 + d2), ?_, by omega, Int.le_refl _⟩, ?_⟩
  · exact (Below.heap_alloc _ _ g (Array.getElem?_eq_some_iff.1 hh).1).trans hh
  · exact mz_drew (mz_drew (mz_drew (mz_drew (((((mz_set W g o _).trans (mz_set _ g (o + 1) _)).trans (mz_set _ g (o + 2) _)).trans (mz_set _ g (o + 3) _)).trans (World.grownBy_alloc _ _ _)))))
end Go.Proofs.YtfcogjlojfcfkaaGreat
end

section
namespace Go.Proofs.YtfcogjlojfcfkaaGreat
open Go.RowKit Ex0

/-- The bytes of all expressions of a row. -/
def bytesF : Fx → Nat
  | .nil => 0
  | .cons _ _ _ _ _ ns a b c r => ownBytes ns b c + (bytesF a + bytesF b + bytesF c) + bytesF r
theorem bytesF_app (f g : Fx) : bytesF (f.app g) = bytesF f + bytesF g := by
  induction f with
  | nil => simp [Fx.app, bytesF]
  | cons p k s n op ns a b c r _ _ _ ih => simp only [Fx.app, bytesF, ih]; omega
theorem bytes_parts (a b c : Fx) : bytesF (parts a b c) = bytesF a + bytesF b + bytesF c := by unfold parts; rw [bytesF_app, bytesF_app]; omega
theorem ownBytes_le (ns : List (List UInt8)) (b c : Fx) : 16 * (b.len + c.len + nameCnt ns c) ≤ ownBytes ns b c ∧ 136 ≤ ownBytes ns b c := by unfold ownBytes; omega

/-- A stay: an expression, what is behind of its parts and what is ahead, and the numbers so far. -/
structure Fr where
  (bk of : Nat) (k : Int) (s : List UInt8) (n op : Int) (vn va vb vc : Value) (ns : List (List UInt8)) (a b c f1 f2 : Fx) (sz dp y q : Int)
def Fr.enc (f : Fr) : List Value := [.pointer (some ⟨f.bk, f.of, none⟩), .int .i64 f.f1.len, .int .i64 f.sz, .int .i64 f.dp, .int .i64 f.y, .int .i64 f.q]
structure Fr.ok (M : Nat) (W : World) (f : Fr) : Prop where
  ex : ExL M W f.bk f.of f.k f.s f.n f.op f.vn f.va f.vb f.vc f.ns f.a f.b f.c
  pr : parts f.a f.b f.c = f.f1.app f.f2
  sz : 0 ≤ f.sz ∧ f.sz ≤ f.y
  dp : 0 ≤ f.dp ∧ f.dp ≤ f.y
  q : 0 ≤ f.q ∧ f.q ≤ f.y
  y : 1 ≤ f.y
  few : f.a.len + f.b.len + f.c.len ≤ 131072
/-- The cells of a stack, the lowest stay first. -/
def encAll : List Fr → List Value
  | [] => []
  | f :: r => encAll r ++ f.enc
theorem encAll_len : ∀ st : List Fr, (encAll st).length = st.length * 6
  | [] => rfl
  | f :: r => by simp only [encAll, List.length_append, encAll_len r, List.length_cons, Fr.enc, List.length_nil]; omega
/-- How many expressions are ahead, and the bytes of what is ahead and behind. -/
def ahead : List Fr → Nat
  | [] => 0
  | f :: r => f.f2.count + ahead r
def bytesA : List Fr → Int
  | [] => 0
  | f :: r => (f.y + bytesF f.f2) + bytesA r
theorem bytesA_pos {M : Nat} {W : World} : ∀ {st : List Fr}, (∀ f ∈ st, Fr.ok M W f) → 0 ≤ bytesA st
  | [], _ => Int.le_refl _
  | f :: r, h => by
    have h1 := (h f (by simp)).y
    have h2 := bytesA_pos (st := r) (fun g hg => h g (by simp [hg]))
    simp only [bytesA]
    omega

theorem own_cells {w : World} {base g cap n : Nat} {T : TypeId} {xs : List Value} (h : w.ownsRow base T 6 (.slice (some ⟨g, 0, none⟩) n cap) n xs) :
    ∃ cs, w.heap[g]? = some (.cells cs T (0, 0)) ∧ base ≤ g ∧ n ≤ cap ∧ cap ≤ maxLen ∧ cs.size = cap * 6 ∧ xs.length = n * 6 ∧ ∀ i, i < n * 6 → cs[i]? = xs[i]? := by
  obtain ⟨hl, h⟩ := h
  rcases h with ⟨h, _⟩ | ⟨g', cap', cs, hv, hg, hh, hn, hm, hs, ht⟩
  · cases h
  · cases hv
    refine ⟨cs, hh, hg, hn, hm, hs, hl, fun i hi => ?_⟩
    rw [← ht, List.getElem?_take_of_lt hi]
    simp
theorem own_mk {w : World} {base g cap n : Nat} {T : TypeId} {xs : List Value} {cs : Array Value} (hh : w.heap[g]? = some (.cells cs T (0, 0))) (hg : base ≤ g) (hn : n ≤ cap) (hm : cap ≤ maxLen) (hs : cs.size = cap * 6) (hl : xs.length = n * 6) (hc : ∀ i, i < n * 6 → cs[i]? = xs[i]?) :
    w.ownsRow base T 6 (.slice (some ⟨g, 0, none⟩) n cap) n xs := by
  refine ⟨hl, .inr ⟨g, cap, cs, rfl, hg, hh, hn, hm, hs, ?_⟩⟩
  apply List.ext_getElem?
  intro i
  by_cases hi : i < n * 6
  · rw [List.getElem?_take_of_lt hi, ← hc i hi]
    simp
  · rw [List.getElem?_eq_none (by simp; omega), List.getElem?_eq_none (by omega)]

/-- The cells of the highest stay. -/
theorem top_at {cs : Array Value} {f : Fr} {r : List Fr} {n : Nat} (hc : ∀ i, i < n * 6 → cs[i]? = (encAll (f :: r))[i]?) (hn : n = r.length + 1) :
    cs[r.length * 6]? = some (.pointer (some ⟨f.bk, f.of, none⟩)) ∧ cs[r.length * 6 + 1]? = some (.int .i64 f.f1.len) ∧ cs[r.length * 6 + 2]? = some (.int .i64 f.sz) ∧ cs[r.length * 6 + 3]? = some (.int .i64 f.dp) ∧ cs[r.length * 6 + 4]? = some (.int .i64 f.y) ∧ cs[r.length * 6 + 5]? = some (.int .i64 f.q) := by
  subst hn
  have e : ∀ j (hj : j < 6), cs[r.length * 6 + j]? = f.enc[j]? := fun j hj => by
    rw [hc _ (by omega)]
    simp only [encAll]
    rw [List.getElem?_append_right (by rw [encAll_len]; omega), encAll_len]
    congr 1
    omega
  exact ⟨e 0 (by omega), e 1 (by omega), e 2 (by omega), e 3 (by omega), e 4 (by omega), e 5 (by omega)⟩
/-- The highest stay is another one. -/
theorem top_put {w : World} {base g cap : Nat} {T : TypeId} {f f' : Fr} {r : List Fr} {cs cs' : Array Value} (hg : base ≤ g) (hn : r.length + 1 ≤ cap) (hm : cap ≤ maxLen) (hs : cs.size = cap * 6) (hc : ∀ i, i < (r.length + 1) * 6 → cs[i]? = (encAll (f :: r))[i]?)
    (hh : w.heap[g]? = some (.cells cs' T (0, 0))) (hs' : cs'.size = cs.size) (hlow : ∀ i, i < r.length * 6 → cs'[i]? = cs[i]?)
    (h0 : cs'[r.length * 6]? = some (.pointer (some ⟨f'.bk, f'.of, none⟩))) (h1 : cs'[r.length * 6 + 1]? = some (.int .i64 f'.f1.len)) (h2 : cs'[r.length * 6 + 2]? = some (.int .i64 f'.sz)) (h3 : cs'[r.length * 6 + 3]? = some (.int .i64 f'.dp)) (h4 : cs'[r.length * 6 + 4]? = some (.int .i64 f'.y)) (h5 : cs'[r.length * 6 + 5]? = some (.int .i64 f'.q)) :
    w.ownsRow base T 6 (.slice (some ⟨g, 0, none⟩) (r.length + 1) cap) (r.length + 1) (encAll (f' :: r)) := by
  refine own_mk hh hg hn hm (hs'.trans hs) (encAll_len _) fun i hi => ?_
  by_cases hlt : i < r.length * 6
  · rw [hlow i hlt, hc i hi]
    simp only [encAll]
    rw [List.getElem?_append_left (by rw [encAll_len]; exact hlt), List.getElem?_append_left (by rw [encAll_len]; exact hlt)]
  · simp only [encAll]
    rw [List.getElem?_append_right (by rw [encAll_len]; omega), encAll_len]
    obtain ⟨j, rfl, hj⟩ : ∃ j, i = r.length * 6 + j ∧ j < 6 := ⟨i - r.length * 6, by omega, by omega⟩
    rw [show r.length * 6 + j - r.length * 6 = j by omega]
    match j, hj with
    | 0, _ => exact h0
    | 1, _ => exact h1
    | 2, _ => exact h2
    | 3, _ => exact h3
    | 4, _ => exact h4
    | 5, _ => exact h5
/-- The stay under the highest one. -/
theorem under_at {cs : Array Value} {f g : Fr} {r : List Fr} {n : Nat} (hc : ∀ i, i < n * 6 → cs[i]? = (encAll (f :: g :: r))[i]?) (hn : n = r.length + 2) : ∀ i, i < (r.length + 1) * 6 → cs[i]? = (encAll (g :: r))[i]? := by
  intro i hi
  rw [hc i (by omega)]
  simp only [encAll]
  rw [List.getElem?_append_left (by rw [List.length_append, encAll_len]; simp [Fr.enc]; omega)]
end Go.Proofs.YtfcogjlojfcfkaaGreat
end

section
namespace Go.Proofs.YtfcogjlojfcfkaaGreat
open Go.RowKit Ex0 Go.Maps
attribute [local go_sem] bt_size bt_list bt_toList

/-- The map of open binders, as a function of the name. -/
def OpenAt (W : World) (ob N : Nat) (cnt : List UInt8 → Int) : Prop := ∃ D : DataW Unit, W.ownsMap Tryz.prog 9 (plainElem (H := Unit) Tryz.prog 3) ob N D ∧ IsMap D ∧ ∀ x, D.atKey (.string x) (.lit (.int .i64 0)) = .lit (.int .i64 (cnt x))

theorem int_lit : Tryz.prog.underlying 3 = some (.int .i64) := by kernel_rfl
theorem key_of (s : List UInt8) (hs : s.length ≤ maxLen) : keyOf Tryz.prog 9 (.string (bt s)) = some (.string s) := by
  have := WideMaps.keyOf_string_mk (P := Tryz.prog) (k := 9) (s := bt s) (by kernel_rfl) (by rw [bt_size]; exact hs)
  exact this
theorem lit_inj {x y : Int} (h : (DataW.lit (.int .i64 x) : DataW Unit) = .lit (.int .i64 y)) : x = y := congrArg (fun d : DataW Unit => match d with | .lit (.int _ n) => n | _ => 0) h

theorem OpenAt.look {W : World} {ob N : Nat} {cnt : List UInt8 → Int} (h : OpenAt W ob N cnt) (s : List UInt8) (hs : s.length ≤ maxLen) :
    (Instr.lookup 63 (.map (some ob)) (.string (bt s)) false).run Tryz.prog W = .ok (.int .i64 (cnt s)) W := by
  obtain ⟨D, ho, hm, hc⟩ := h
  obtain ⟨c, hrun, hat, _⟩ := ho.lookup_int (string_keyed (by kernel_rfl)) (t := 63) (e := 3) (by kernel_rfl) int_lit (Tryz.zeroValue3 W) (key_of s hs)
  rw [hc] at hat
  rw [hrun, lit_inj hat]
theorem OpenAt.put {W : World} {ob N : Nat} {cnt : List UInt8 → Int} (h : OpenAt W ob N cnt) (s : List UInt8) (hs : s.length ≤ maxLen) (v : Int) (hv : (Lit.int .i64 v).wf = true) (hN : N < maxLen) :
    ∃ W', (Instr.mapUpdate 63 (.map (some ob)) (.string (bt s)) (.int .i64 v)).run Tryz.prog W = .ok () W' ∧ OpenAt W' ob (N + 1) (fun x => if x = s then v else cnt x) ∧ W.grownBy W' (some ob) := by
  obtain ⟨D, ho, hm, hc⟩ := h
  obtain ⟨W', h1, h2, h3⟩ := ho.update (string_keyed (by kernel_rfl)) (t := 63) (e := 3) (by kernel_rfl) hN (key_of s hs) (plainElem_int int_lit hv)
  refine ⟨W', h1, ⟨_, h2, ?_, fun x => ?_⟩, h3⟩
  · obtain ⟨es, rfl⟩ := hm
    exact ⟨_, rfl⟩
  · dsimp only
    by_cases hx : x = s
    · subst hx
      rw [if_pos rfl]
      exact atKey_put_same hm (by simp [WideAt.IsKeyLit]) _ _
    · rw [if_neg hx]
      exact (atKey_put_other (by simpa using hx) _ _).trans (hc x)

theorem wf_int (v : Int) (h1 : -9223372036854775808 ≤ v) (h2 : v ≤ 9223372036854775807) : (Lit.int .i64 v).wf = true := by
  show (decide (IntKind.i64.min ≤ v) && decide (v ≤ IntKind.i64.max)) = true
  rw [Bool.and_eq_true, decide_eq_true_eq, decide_eq_true_eq]
  exact ⟨h1, h2⟩
/-- How often a name stands in a list. -/
def occ (x : List UInt8) (ns : List (List UInt8)) : Nat := ns.countP (fun y => y == x)
theorem occ_take (x : List UInt8) (ns : List (List UInt8)) (j : Nat) (h : j < ns.length) : occ x (ns.take (j + 1)) = occ x (ns.take j) + if x = ns[j] then 1 else 0 := by
  unfold occ
  rw [List.take_succ_eq_append_getElem h, List.countP_append]
  by_cases hx : x = ns[j]
  · simp [hx]
  · simp [hx, Ne.symm hx]
theorem occ_le (x : List UInt8) (ns : List (List UInt8)) : occ x ns ≤ ns.length := List.countP_le_length

/-- The finder and its two maps. -/
structure FdAt (W : World) (fd ob fb : Nat) : Prop where
  cells : W.heap[fd]? = some (.cells #[.map (some ob), .map (some fb)] 129 (0, 0))
  ne : fd ≠ ob ∧ fd ≠ fb ∧ ob ≠ fb
theorem FdAt.kept {W W' : World} {fd ob fb : Nat} (h : FdAt W fd ob fb) (hg : W.grownBy W' (some ob)) : FdAt W' fd ob fb :=
  ⟨(hg.block fd (Array.getElem?_eq_some_iff.1 h.cells).1 (by simp [h.ne.1])).trans h.cells, h.ne⟩

set_option maxHeartbeats 1000000 in
theorem bind_any (fd ob fb N M : Nat) (cnt : List UInt8 → Int) (ns : List (List UInt8)) (vn : Value) (t : Int) (W : World) (hf : FdAt W fd ob fb) (ho : OpenAt W ob N cnt) (hM : M ≤ ob) (hns : NsV (Old M) W vn ns) (hMW : M ≤ W.heap.size) (hl : ns.length ≤ 1048576) (hN : N + ns.length ≤ 1099511627776)
    (hs : ∀ x ∈ ns, x.length ≤ maxLen) (ht : t = 1 ∨ t = -1) (hc : ∀ x, -1099511627776 ≤ cnt x ∧ cnt x ≤ 1099511627776) :
    Calls Tryz.prog 80 #[.pointer (some ⟨fd, 0, none⟩), .int .i64 t, vn] W fun e w' => (∃ v, e = .returned v) ∧ OpenAt w' ob (N + ns.length) (fun x => cnt x + t * occ x ns) ∧ W.grownBy w' (some ob) := by
  obtain ⟨an, cn, rfl⟩ := hns.slice
  have HO := Lib.hid ho
  have HF := Lib.hid hf
  have HNs := Lib.hid hns
  clear ho hf
  go_enter Tryz.func80, Tryz.ntmps80
  go_wp2_with fail
  go_loopw [10] (fun i wr => ∃ j : Nat, j ≤ ns.length ∧ i = .int .i64 j ∧ OpenAt wr ob (N + j) (fun x => cnt x + t * occ x (ns.take j)) ∧ W.grownBy wr (some ob)) (fun i _ => ns.length - (intOf i).toNat)
  case atStart => exact ⟨0, Nat.zero_le _, rfl, by simpa [occ] using HO.out, ⟨rfl, rfl, rfl, Nat.le_refl _, fun _ _ _ => rfl⟩⟩
  case round =>
    obtain ⟨j, hj, rfl, hop, hg⟩ := hrel
    have HOp := Lib.hid hop
    have HG := Lib.hid hg
    by_cases hlt : j < ns.length
    · obtain ⟨hx, _⟩ | ⟨_, b, o, c, hv, hb, hlc, hcm, ha⟩ := HNs.out
      · rw [hx] at hlt
        simp at hlt
      cases hv
      have hbM : b < M := hb
      have g0 := (World.cell?_of_block (w := W) (w' := wr) (a := ⟨b, o + j, none⟩) (hg.block b (by omega) (by simp; omega))).trans (ha j hlt)
      have gf := cell_of (HF.out.kept hg).cells 0 _ rfl
      have hsj := hs _ (List.getElem_mem hlt)
      have hlk := HOp.out.look ns[j] hsj
      have hcj := hc ns[j]
      have hoc := occ_le ns[j] (ns.take j)
      rw [List.length_take] at hoc
      have hw : IntKind.i64.wrap (cnt ns[j] + t * occ ns[j] (ns.take j) + t) = cnt ns[j] + t * occ ns[j] (ns.take j) + t := by
        rw [IntKind.wrap_i64]
        rcases ht with rfl | rfl <;> omega
      obtain ⟨W5, hrun, hop5, hg5⟩ := HOp.out.put ns[j] hsj (cnt ns[j] + t * occ ns[j] (ns.take j) + t) (wf_int _ (by rcases ht with rfl | rfl <;> omega) (by rcases ht with rfl | rfl <;> omega)) (by unfold maxLen; omega)
      have HO5 := Lib.hid hop5
      have HG5 := Lib.hid (hg.trans hg5)
      unfold maxLen at hcm
      clear hop hg hop5 hg5 hoc hcj
      go_wp2_with fail
      go_roundw
      case rel =>
        refine ⟨j + 1, by omega, by go_num, ?_, HG5.out⟩
        have e : (fun x => if x = ns[j] then cnt ns[j] + t * occ ns[j] (ns.take j) + t else cnt x + t * occ x (ns.take j)) = fun x => cnt x + t * occ x (ns.take (j + 1)) := by
          funext x
          rw [occ_take x ns j hlt]
          by_cases hx : x = ns[j]
          · rw [if_pos hx, if_pos hx, hx, Int.natCast_add, Int.mul_add]
            simp
            omega
          · rw [if_neg hx, if_neg hx, Nat.add_zero]
        have := HO5.out
        rw [e] at this
        exact this
      case measure => simp [intOf]; omega
    · obtain rfl : j = ns.length := by omega
      clear hop hg
      go_wp2_with fail
      go_end0
      exact ⟨⟨_, rfl⟩, by have := HOp.out; rwa [List.take_length] at this, HG.out⟩

/-- The names of binds. -/
def bnames : Fx → List (List UInt8)
  | .nil => []
  | .cons (.bind s) _ _ _ _ _ _ _ _ r => s :: bnames r
  | .cons _ _ _ _ _ _ _ _ _ r => bnames r
theorem bnames_one (f : Fx) (s' : List UInt8) (k : Int) (s : List UInt8) (n op : Int) (ns : List (List UInt8)) (a b c : Fx) : bnames (f.app (.cons (.bind s') k s n op ns a b c .nil)) = bnames f ++ [s'] := by
  induction f with
  | nil => rfl
  | cons p k s n op ns a b c r _ _ _ ih => cases p <;> simp only [Fx.app, bnames, ih, List.cons_append]
theorem bnames_len (f : Fx) : (bnames f).length ≤ f.len := by
  induction f with
  | nil => exact Nat.le_refl _
  | cons p k s n op ns a b c r _ _ _ ih => cases p <;> simp only [bnames, Fx.len, List.length_cons] <;> omega
theorem bnames_mem (f r : Fx) (s' : List UInt8) (k : Int) (s : List UInt8) (n op : Int) (ns : List (List UInt8)) (a b c : Fx) : s' ∈ bnames (f.app (.cons (.bind s') k s n op ns a b c r)) := by
  induction f with
  | nil => simp [Fx.app, bnames]
  | cons p k s n op ns a b c r' _ _ _ ih => cases p <;> simp [Fx.app, bnames, ih]
theorem occ_one (x y : List UInt8) (ns : List (List UInt8)) : occ x (ns ++ [y]) = occ x ns + if x = y then 1 else 0 := by
  unfold occ
  rw [List.countP_append]
  by_cases hx : x = y
  · simp [hx]
  · simp [hx, Ne.symm hx]

set_option maxHeartbeats 1000000 in
theorem bindAll_any (fd ob fb N M : Nat) (cnt : List UInt8 → Int) (b : Fx) (vb : Value) (t : Int) (W : World) (hf : FdAt W fd ob fb) (ho : OpenAt W ob N cnt) (hM : M ≤ ob) (hb : FxV (Old M) W 1 vb b) (hMW : M ≤ W.heap.size) (hl : b.len ≤ 1048576) (hN : N + b.len ≤ 1099511627776)
    (hs : ∀ x ∈ bnames b, x.length ≤ maxLen) (ht : t = 1 ∨ t = -1) (hc : ∀ x, -1099511627776 ≤ cnt x ∧ cnt x ≤ 1099511627776) :
    Calls Tryz.prog 81 #[.pointer (some ⟨fd, 0, none⟩), .int .i64 t, vb] W fun e w' => (∃ v, e = .returned v) ∧ OpenAt w' ob (N + b.len) (fun x => cnt x + t * occ x (bnames b)) ∧ W.grownBy w' (some ob) := by
  obtain ⟨ab, cb, rfl⟩ := hb.slice
  have HO := Lib.hid ho
  have HF := Lib.hid hf
  have HBs := Lib.hid hb
  clear ho hf
  go_enter Tryz.func81, Tryz.ntmps81
  go_wp2_with fail
  go_loopw [9] (fun i wr => ∃ f1 f2 : Fx, b = f1.app f2 ∧ i = .int .i64 f1.len ∧ OpenAt wr ob (N + f1.len) (fun x => cnt x + t * occ x (bnames f1)) ∧ W.grownBy wr (some ob)) (fun i _ => b.len - (intOf i).toNat)
  case atStart => exact ⟨.nil, b, rfl, rfl, by simpa [occ, bnames, Fx.len] using HO.out, ⟨rfl, rfl, rfl, Nat.le_refl _, fun _ _ _ => rfl⟩⟩
  case round =>
    obtain ⟨f1, f2, hf, rfl, hop, hg⟩ := hrel
    have HOp := Lib.hid hop
    have HG := Lib.hid hg
    have HFx := Lib.hid hf
    by_cases hlt : f1.len < b.len
    · obtain ⟨p1, k1, s1, n1, op1, ns1, x, y, z, r1, rfl⟩ := fx_cons_of HFx.out hlt
      obtain ⟨bb, oo, wn, wa, wb, wc, hv, hbb, hlc, hcm, _, hpre, _⟩ := fx_at HBs.out HFx.out
      cases hv
      cases p1 with
      | no => exact absurd hpre (by simp [PreAt])
      | alt k2 s2 n2 ns2 => exact absurd hpre.1 (by decide)
      | bind s2 =>
        have hbM : bb < M := hbb
        have g0 := (World.cell?_of_block (w := W) (w' := wr) (a := ⟨bb, oo + f1.len * 9, none⟩) (hg.block bb (by omega) (by simp; omega))).trans hpre.2
        have gf := cell_of (HF.out.kept hg).cells 0 _ rfl
        have hsj := hs s2 (by rw [HFx.out]; exact bnames_mem f1 r1 s2 k1 s1 n1 op1 ns1 x y z)
        have HOd := Lib.hid (show OpenAt wr.drew ob (N + f1.len) (fun x => cnt x + t * occ x (bnames f1)) from let ⟨D, a, b, c⟩ := HOp.out; ⟨D, a, b, c⟩)
        have hlk := HOd.out.look s2 hsj
        have hcj := hc s2
        have hoc := occ_le s2 (bnames f1)
        have hbl := bnames_len f1
        have hw : IntKind.i64.wrap (cnt s2 + t * occ s2 (bnames f1) + t) = cnt s2 + t * occ s2 (bnames f1) + t := by
          rw [IntKind.wrap_i64]
          rcases ht with rfl | rfl <;> omega
        obtain ⟨W5, hrun, hop5, hg5⟩ := HOd.out.put s2 hsj (cnt s2 + t * occ s2 (bnames f1) + t) (wf_int _ (by rcases ht with rfl | rfl <;> omega) (by rcases ht with rfl | rfl <;> omega)) (by unfold maxLen; omega)
        have HO5 := Lib.hid hop5
        have HG5 := Lib.hid (hg.trans (show wr.grownBy W5 (some ob) from ⟨hg5.os, hg5.tape, hg5.output, hg5.size, hg5.block⟩))
        have hb1 := bnames_one f1 s2 k1 s1 n1 op1 ns1 x y z
        unfold maxLen at hcm
        clear hop hg hop5 hg5 hoc hcj hpre hf hbl
        go_wp2_with fail
        refine region_one 12 (by kernel_rfl) (by kernel_rfl) ?_
        simp only [List.take_succ_cons, List.take_zero, List.drop_succ_cons, List.drop_zero]
        refine swk_want (by rfl) (fun K hK => ?_)
        replace hK := Lib.hid hK
        go_simp
        refine hK.out _ ?_
        clear hK K
        refine swk_want (by rfl) (fun K hK => ?_)
        replace hK := Lib.hid hK
        go_simp
        refine hK.out _ ?_
        clear hK K
        refine swk_want (by rfl) (fun K hK => ?_)
        replace hK := Lib.hid hK
        go_simp
        refine hK.out _ ?_
        clear hK K
        refine swk_want (by rfl) (fun K hK => ?_)
        replace hK := Lib.hid hK
        go_simp
        refine hK.out _ ?_
        clear hK K
        refine swk_want (by rfl) (fun K hK => ?_)
        replace hK := Lib.hid hK
        go_simp
        refine hK.out _ ?_
        clear hK K
        refine swk_want (by rfl) (fun K hK => ?_)
        replace hK := Lib.hid hK
        go_simp
        refine hK.out _ ?_
        clear hK K
        refine swk_want (by rfl) (fun K hK => ?_)
        replace hK := Lib.hid hK
        go_simp
        refine hK.out _ ?_
        clear hK K
        refine swk_want (by rfl) (fun K hK => ?_)
        replace hK := Lib.hid hK
        go_simp
        refine hK.out _ ?_
        clear hK K
        refine swk_want (by rfl) (fun K hK => ?_)
        replace hK := Lib.hid hK
        go_simp
        refine hK.out _ ?_
        clear hK K
        refine swk_want (by rfl) (fun K hK => ?_)
        replace hK := Lib.hid hK
        go_simp
        refine hK.out _ ?_
        clear hK K
        refine swk_want (by rfl) (fun K hK => ?_)
        replace hK := Lib.hid hK
        go_simp
        refine hK.out _ ?_
        clear hK K
        refine swk_want (by rfl) (fun K hK => ?_)
        replace hK := Lib.hid hK
        go_simp
        refine hK.out _ ?_
        clear hK K
        refine swk_nil ?_
        refine one_want rfl (by rfl) (fun K hK => ?_)
        replace hK := Lib.hid hK
        go_simp
        refine hK.out _ _ ?_
        clear hK K
        simp only [List.take_succ_cons, List.take_zero, List.drop_succ_cons, List.drop_zero]
        refine swk_nil ?_
        go_wp2_with fail
        go_roundw
        case rel =>
          refine ⟨f1.app (.cons (.bind s2) k1 s1 n1 op1 ns1 x y z .nil), r1, by rw [Fx.app_app]; exact HFx.out, by rw [Fx.len_app]; simp only [Fx.len]; go_num, ?_, HG5.out⟩
          have e : (fun x => if x = s2 then cnt s2 + t * occ s2 (bnames f1) + t else cnt x + t * occ x (bnames f1)) = fun x => cnt x + t * occ x (bnames f1 ++ [s2]) := by
            funext x
            rw [occ_one]
            by_cases hx : x = s2
            · rw [if_pos hx, if_pos hx, hx, Int.natCast_add, Int.mul_add]
              simp
              omega
            · rw [if_neg hx, if_neg hx, Nat.add_zero]
          have := HO5.out
          rw [e] at this
          rw [hb1, Fx.len_app]
          exact this
        case measure => simp [intOf]; omega
    · have e1 := fx_nil_of HFx.out hlt
      subst e1
      rw [Fx.app_nil] at hf
      subst hf
      clear hop hg
      go_wp2_with fail
      go_end0
      exact ⟨⟨_, rfl⟩, HOp.out, HG.out⟩
end Go.Proofs.YtfcogjlojfcfkaaGreat
end

section
namespace Go.Proofs.YtfcogjlojfcfkaaGreat
open Go.RowKit Ex0 Go.Maps
attribute [local go_sem] bt_size bt_list bt_toList

/-- The set of found names. -/
def FoundAt (W : World) (fb N : Nat) (F : List UInt8 → Bool) : Prop := ∃ D : DataW Unit, W.ownsMap Tryz.prog 9 (unitElem (H := Unit)) fb N D ∧ IsMap D ∧ ∀ x, Maps.has D (.string x) = F x

theorem FoundAt.put {W : World} {fb N : Nat} {F : List UInt8 → Bool} (h : FoundAt W fb N F) (s : List UInt8) (hs : s.length ≤ maxLen) (hN : N < maxLen) :
    ∃ W', (Instr.mapUpdate 108 (.map (some fb)) (.string (bt s)) (.agg #[])).run Tryz.prog W = .ok () W' ∧ FoundAt W' fb (N + 1) (fun x => decide (x = s) || F x) ∧ W.grownBy W' (some fb) := by
  obtain ⟨D, ho, hm, hc⟩ := h
  obtain ⟨W', h1, h2, h3⟩ := ho.update (string_keyed (by kernel_rfl)) (t := 108) (e := 109) (by kernel_rfl) hN (key_of s hs) unitElem_mk
  refine ⟨W', h1, ⟨_, h2, ?_, fun x => ?_⟩, h3⟩
  · obtain ⟨es, rfl⟩ := hm
    exact ⟨_, rfl⟩
  · by_cases hx : x = s
    · subst hx
      simp only [decide_true, Bool.true_or]
      exact has_put_same hm (by simp [WideAt.IsKeyLit]) _
    · rw [has_put_other (by simpa using hx), hc]
      simp [hx]
theorem FoundAt.kept {W W' : World} {fb N : Nat} {F : List UInt8 → Bool} {row : Option Nat} (h : FoundAt W fb N F) (hg : W.grownBy W' row) (hne : some fb ≠ row) : FoundAt W' fb N F :=
  let ⟨D, ho, hm, hc⟩ := h; ⟨D, ho.kept hg hne, hm, hc⟩
theorem OpenAt.kept {W W' : World} {ob N : Nat} {cnt : List UInt8 → Int} {row : Option Nat} (h : OpenAt W ob N cnt) (hg : W.grownBy W' row) (hne : some ob ≠ row) : OpenAt W' ob N cnt :=
  let ⟨D, ho, hm, hc⟩ := h; ⟨D, ho.kept hg hne, hm, hc⟩
end Go.Proofs.YtfcogjlojfcfkaaGreat
end

section
namespace Go.Proofs.YtfcogjlojfcfkaaGreat
open Go.RowKit Ex0 Go.Maps
attribute [local go_sem] bt_size bt_list bt_toList

/-- All blocks but two are as they were. -/
structure Two (ob fb : Nat) (W W' : World) : Prop where
  os : W'.os = W.os
  tape : W'.tape = W.tape
  output : W'.output = W.output
  size : W.heap.size ≤ W'.heap.size
  block : ∀ k, k < W.heap.size → k ≠ ob → k ≠ fb → W'.heap[k]? = W.heap[k]?
theorem Two.refl (ob fb : Nat) (W : World) : Two ob fb W W := ⟨rfl, rfl, rfl, Nat.le_refl _, fun _ _ _ _ => rfl⟩
theorem Two.trans {ob fb : Nat} {A B C : World} (h : Two ob fb A B) (k : Two ob fb B C) : Two ob fb A C :=
  ⟨k.os.trans h.os, k.tape.trans h.tape, k.output.trans h.output, Nat.le_trans h.size k.size, fun i hi h1 h2 => (k.block i (Nat.lt_of_lt_of_le hi h.size) h1 h2).trans (h.block i hi h1 h2)⟩
theorem Two.ob {ob fb : Nat} {A B : World} (h : A.grownBy B (some ob)) : Two ob fb A B := ⟨h.os, h.tape, h.output, h.size, fun k hk h1 _ => h.block k hk (fun e => h1 (Option.some.inj e))⟩
theorem Two.fb {ob fb : Nat} {A B : World} (h : A.grownBy B (some fb)) : Two ob fb A B := ⟨h.os, h.tape, h.output, h.size, fun k hk _ h2 => h.block k hk (fun e => h2 (Option.some.inj e))⟩
theorem Two.draws {ob fb : Nat} (A : World) (n : Nat) : Two ob fb A (A.drewN n) := ⟨rfl, rfl, rfl, Nat.le_refl _, fun _ _ _ _ => rfl⟩
theorem Two.keep {ob fb M : Nat} {A B : World} (h : Two ob fb A B) (h1 : M ≤ ob) (h2 : M ≤ fb) (hM : M ≤ A.heap.size) : Keep (Old M) (Old M) A B :=
  fun b hb => ⟨hb, fun o => World.cell?_of_block (w := A) (w' := B) (a := ⟨b, o, none⟩) (h.block b (Nat.lt_of_lt_of_le hb hM) (by have : b < M := hb; omega) (by have : b < M := hb; omega))⟩
theorem ExL.two {M ob fb : Nat} {W W' : World} {bk of : Nat} {k : Int} {s : List UInt8} {n op : Int} {vn va vb vc : Value} {ns : List (List UInt8)} {a b c : Fx} (h : ExL M W bk of k s n op vn va vb vc ns a b c) (t : Two ob fb W W') (h1 : M ≤ ob) (h2 : M ≤ fb) (hM : M ≤ W.heap.size) :
    ExL M W' bk of k s n op vn va vb vc ns a b c :=
  have q := t.keep h1 h2 hM
  have c := fun o => (q bk h.lt).2 o
  ⟨h.lt, (c _).trans h.c0, (c _).trans h.c1, (c _).trans h.c2, (c _).trans h.c3, (c _).trans h.c4, (c _).trans h.c5, (c _).trans h.c6, (c _).trans h.c7, h.ex.keep q⟩

/-- The finder's state. -/
structure FSt (W : World) (fd ob fb N : Nat) (cnt : List UInt8 → Int) (F : List UInt8 → Bool) : Prop where
  fd : FdAt W fd ob fb
  op : OpenAt W ob N cnt
  fo : FoundAt W fb N F
theorem FdAt.two {W W' : World} {fd ob fb : Nat} (h : FdAt W fd ob fb) (t : Two ob fb W W') : FdAt W' fd ob fb :=
  ⟨(t.block fd (Array.getElem?_eq_some_iff.1 h.cells).1 h.ne.1 h.ne.2.1).trans h.cells, h.ne⟩
theorem OpenAt.mono {W : World} {ob N N' : Nat} {cnt : List UInt8 → Int} (h : OpenAt W ob N cnt) (hN : N ≤ N') : OpenAt W ob N' cnt := let ⟨D, ho, hm, hc⟩ := h; ⟨D, ho.mono hN, hm, hc⟩
theorem FoundAt.mono {W : World} {fb N N' : Nat} {F : List UInt8 → Bool} (h : FoundAt W fb N F) (hN : N ≤ N') : FoundAt W fb N' F := let ⟨D, ho, hm, hc⟩ := h; ⟨D, ho.mono hN, hm, hc⟩
theorem FSt.mono {W : World} {fd ob fb N N' : Nat} {cnt : List UInt8 → Int} {F : List UInt8 → Bool} (h : FSt W fd ob fb N cnt F) (hN : N ≤ N') : FSt W fd ob fb N' cnt F := ⟨h.fd, h.op.mono hN, h.fo.mono hN⟩
/-- Behind a turn of the open binders. -/
theorem FSt.turn {W W' : World} {fd ob fb N N' : Nat} {cnt cnt' : List UInt8 → Int} {F : List UInt8 → Bool} (h : FSt W fd ob fb N cnt F) (ho : OpenAt W' ob N' cnt') (hg : W.grownBy W' (some ob)) (hN : N ≤ N') : FSt W' fd ob fb N' cnt' F :=
  ⟨h.fd.kept hg, ho, (h.fo.kept hg (by simp [Ne.symm h.fd.ne.2.2])).mono hN⟩
theorem FSt.draws {W : World} {fd ob fb N : Nat} {cnt : List UInt8 → Int} {F : List UInt8 → Bool} (h : FSt W fd ob fb N cnt F) (n : Nat) : FSt (W.drewN n) fd ob fb N cnt F :=
  ⟨⟨h.fd.cells, h.fd.ne⟩, let ⟨D, a, b, c⟩ := h.op; ⟨D, a, b, c⟩, let ⟨D, a, b, c⟩ := h.fo; ⟨D, a, b, c⟩⟩

/-- The names that an alternative binds. -/
def altBinds : Pre → List (List UInt8)
  | .alt _ _ _ ns => ns
  | _ => []
/-- Is a name free in one of a row of expressions (of alternatives: where these don't bind it)? -/
def fvF (x : List UInt8) (al : Bool) : Fx → Bool
  | .nil => false
  | .cons p k s _ _ ns a b c r => (!(al && decide (x ∈ altBinds p)) && ((k == 1 && decide (x = s)) || (!decide (x ∈ ns) && !decide (x ∈ bnames b) && (fvF x false a || fvF x false b)) || (k == 6 && !decide (x = s) && fvF x true c))) || fvF x al r
/-- Is it free in an expression? -/
def fvE (x : List UInt8) (k : Int) (s : List UInt8) (ns : List (List UInt8)) (a b c : Fx) : Bool :=
  (k == 1 && decide (x = s)) || (!decide (x ∈ ns) && !decide (x ∈ bnames b) && (fvF x false a || fvF x false b)) || (k == 6 && !decide (x = s) && fvF x true c)
theorem fvF_app (x : List UInt8) (al : Bool) (f g : Fx) : fvF x al (f.app g) = (fvF x al f || fvF x al g) := by
  induction f with
  | nil => rfl
  | cons p k s n op ns a b c r _ _ _ ih => simp only [Fx.app, fvF, ih, Bool.or_assoc]
end Go.Proofs.YtfcogjlojfcfkaaGreat
end
