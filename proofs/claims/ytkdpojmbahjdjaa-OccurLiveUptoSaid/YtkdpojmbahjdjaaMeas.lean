/- The small functions of package core's measurer, at every expression. Bounds on how many parts there are. -/
import Derived.Test.YtkdpojmbahjdjaaIter
import Derived.Test.YtkdpojmbahjdjaaLeafM
import Derived.Test.YtkdpojmbahjdjaaLeafF
namespace Go.Proofs.Ytkdpojmbahjdjaa
open Go.RowKit Ex0
attribute [local go_sem] bt_size bt_list bt_toList

theorem sum_any (x y : Int) (W : World) (hx : 0 ≤ x) (hx2 : x ≤ 9223372036854775807) (hy : 0 ≤ y) (hy2 : y ≤ 9223372036854775807) :
    Calls Try.prog 67 #[.int .i64 x, .int .i64 y] W fun e w' => e = .returned (.int .i64 (if x + y ≤ 9223372036854775807 then x + y else 9223372036854775807)) ∧ W = w' := by
  by_cases h : x > 9223372036854775807 - y
  · rw [if_neg (by omega)]
    have hd : decide (x > 9223372036854775807 - y) = true := decide_eq_true h
    have hd2 : decide (9223372036854775807 - y < x) = true := decide_eq_true (by omega)
    go_enter Try.func67, Try.ntmps67
    go_wp2_with fail
    go_ret
    exact ⟨rfl, rfl⟩
  · rw [if_pos (by omega)]
    have hd : decide (x > 9223372036854775807 - y) = false := decide_eq_false h
    have hd2 : decide (9223372036854775807 - y < x) = false := decide_eq_false (by omega)
    go_enter Try.func67, Try.ntmps67
    go_wp2_with fail
    go_ret
    exact ⟨by go_num, rfl⟩

theorem children_any {M bk of : Nat} {k : Int} {s : List UInt8} {n op : Int} {vn va vb vc : Value} {ns : List (List UInt8)} {a b c : Fx} {W : World} (h : ExL M W bk of k s n op vn va vb vc ns a b c) (hlen : a.len + b.len + c.len ≤ 1048576) :
    Calls Try.prog 47 #[.pointer (some ⟨bk, of, none⟩)] W fun e w' => e = .returned (.int .i64 ((a.len + b.len + c.len : Nat) : Int)) ∧ ∃ n, w' = W.drewN n := by
  obtain ⟨aa, ca, rfl⟩ := h.ex.a.slice
  obtain ⟨ab, cb, rfl⟩ := h.ex.b.slice
  obtain ⟨ac, cc, rfl⟩ := h.ex.c.slice
  obtain ⟨_, c0, c1, c2, c3, c4, c5, c6, c7, _⟩ := h
  go_enter Try.func47, Try.ntmps47
  go_wp2_with fail
  go_quiet (fail)
  go_wp2_with fail
  go_ret
  exact ⟨by go_num, _, rfl⟩

set_option maxHeartbeats 1000000 in
theorem child_any {M bk of : Nat} {k : Int} {s : List UInt8} {n op : Int} {vn va vb vc : Value} {ns : List (List UInt8)} {a b c : Fx} {W : World} {f1 r x y z : Fx} {p : Pre} {k1 : Int} {s1 : List UInt8} {n1 op1 : Int} {ns1 : List (List UInt8)}
    (h : ExL M W bk of k s n op vn va vb vc ns a b c) (hlen : a.len + b.len + c.len ≤ 1048576) (hp : parts a b c = f1.app (.cons p k1 s1 n1 op1 ns1 x y z r)) :
    Calls Try.prog 50 #[.pointer (some ⟨bk, of, none⟩), .int .i64 f1.len] W fun e w' => (∃ b' o' v1 v2 v3 v4, e = .returned (.pointer (some ⟨b', o', none⟩)) ∧ ExL M W b' o' k1 s1 n1 op1 v1 v2 v3 v4 ns1 x y z) ∧ ∃ n, w' = W.drewN n := by
  have HX := Lib.hid h
  obtain ⟨aa, ca, rfl⟩ := h.ex.a.slice
  obtain ⟨ab, cb, rfl⟩ := h.ex.b.slice
  obtain ⟨ac, cc, rfl⟩ := h.ex.c.slice
  obtain ⟨_, e0, e1, e2, e3, e4, e5, e6, e7, _⟩ := h
  rcases place_of hp with ⟨hl, r', e⟩ | ⟨g, h1, hl, r', e⟩ | ⟨g, h1, hl, r', e⟩
  · obtain ⟨bb, oo, wn, wa, wb, wc, hv, hbb, hlc, hcm, _, _, c0, c1, c2, c3, c4, c5, c6, c7, hx⟩ := fx_at HX.out.ex.a e
    cases hv
    have HQ := Lib.hid (show ExL M W bb (oo + f1.len * 8) k1 s1 n1 op1 wn wa wb wc ns1 x y z from ⟨hbb, c0, c1, c2, c3, c4, c5, c6, c7, hx⟩)
    clear hp e c0 c1 c2 c3 c4 c5 c6 c7 hx
    unfold maxLen at hcm
    go_enter Try.func50, Try.ntmps50
    go_wp2_with fail
    go_ret
    exact ⟨⟨_, _, _, _, _, _, rfl, HQ.out⟩, 0, rfl⟩
  · obtain ⟨bb, oo, wn, wa, wb, wc, hv, hbb, hlc, hcm, _, _, c0, c1, c2, c3, c4, c5, c6, c7, hx⟩ := fx_at HX.out.ex.b e
    cases hv
    have HQ := Lib.hid (show ExL M W bb (oo + g.len * 9 + 1) k1 s1 n1 op1 wn wa wb wc ns1 x y z from ⟨hbb, c0, c1, c2, c3, c4, c5, c6, c7, hx⟩)
    clear hp e c0 c1 c2 c3 c4 c5 c6 c7 hx
    unfold maxLen at hcm
    rw [h1]
    have d1 : decide (((a.len + g.len : Nat) : Int) < a.len) = false := decide_eq_false (by omega)
    have d2 : ((a.len + g.len : Nat) : Int) - a.len = g.len := by omega
    have d3 : decide ((g.len : Int) < b.len) = true := decide_eq_true (by omega)
    go_enter Try.func50, Try.ntmps50
    go_wp2_with fail
    go_ret
    exact ⟨⟨_, _, _, _, _, _, rfl, HQ.out⟩, 0, rfl⟩
  · obtain ⟨bb, oo, wn, wa, wb, wc, hv, hbb, hlc, hcm, _, _, c0, c1, c2, c3, c4, c5, c6, c7, hx⟩ := fx_at HX.out.ex.c e
    cases hv
    have HQ := Lib.hid (show ExL M W bb (oo + g.len * 12 + 4) k1 s1 n1 op1 wn wa wb wc ns1 x y z from ⟨hbb, c0, c1, c2, c3, c4, c5, c6, c7, hx⟩)
    clear hp e c0 c1 c2 c3 c4 c5 c6 c7 hx
    unfold maxLen at hcm
    rw [h1]
    have d1 : decide (((a.len + b.len + g.len : Nat) : Int) < a.len) = false := decide_eq_false (by omega)
    have d2 : ((a.len + b.len + g.len : Nat) : Int) - a.len = ((b.len + g.len : Nat) : Int) := by omega
    have d3 : decide (((b.len + g.len : Nat) : Int) < b.len) = false := decide_eq_false (by omega)
    have d4 : ((b.len + g.len : Nat) : Int) - b.len = g.len := by omega
    go_enter Try.func50, Try.ntmps50
    go_wp2_with fail
    go_quiet (fail)
    go_wp2_with fail
    go_ret
    exact ⟨⟨_, _, _, _, _, _, rfl, by rw [show a.len + b.len + g.len - a.len - b.len = g.len by omega]; exact HQ.out⟩, _, rfl⟩

/-- The names that the alternatives bind, and the bytes of one expression without its parts. -/
def altNames : List Pre → Nat
  | [] => 0
  | .alt _ _ _ ns :: r => ns.length + altNames r
  | _ :: r => altNames r
def nameCnt (ns : List (List UInt8)) (c : Fx) : Nat := ns.length + altNames (pres c)
def ownBytes (ns : List (List UInt8)) (b c : Fx) : Nat := 136 + 56 * c.len + 16 * b.len + 16 * nameCnt ns c
theorem altNames_one (f : Fx) (k' : Int) (s' : List UInt8) (n' : Int) (ns' : List (List UInt8)) (k : Int) (s : List UInt8) (n op : Int) (ns : List (List UInt8)) (a b c : Fx) :
    altNames (pres (f.app (.cons (.alt k' s' n' ns') k s n op ns a b c .nil))) = altNames (pres f) + ns'.length := by
  induction f with
  | nil => simp [Fx.app, pres, altNames]
  | cons p k s n op ns a b c r _ _ _ ih => cases p <;> simp only [Fx.app, pres, altNames, ih] <;> omega
theorem altNames_le (f r : Fx) : altNames (pres f) ≤ altNames (pres (f.app r)) := by
  induction f with
  | nil => simp [pres, altNames]
  | cons p k s n op ns a b c r _ _ _ ih => cases p <;> simp only [Fx.app, pres, altNames] <;> omega

set_option maxHeartbeats 2000000 in
set_option maxRecDepth 100000 in
theorem extent_any {M bk of : Nat} {k : Int} {s : List UInt8} {n op : Int} {vn va vb vc : Value} {ns : List (List UInt8)} {a b c : Fx} {W : World} (h : ExL M W bk of k s n op vn va vb vc ns a b c) (hMW : M ≤ W.heap.size) (hlen : b.len + c.len + nameCnt ns c ≤ 1073741824) :
    Calls Try.prog 46 #[.pointer (some ⟨bk, of, none⟩)] W fun e w' => (∃ q : Int, e = .returned (.agg #[.int .i64 1, .int .i64 1, .int .i64 (ownBytes ns b c), .int .i64 q]) ∧ 0 ≤ q ∧ q ≤ ownBytes ns b c) ∧ Below W.heap.size W w' := by
  have HX := Lib.hid h
  obtain ⟨an, cn, rfl⟩ := h.ex.ns.slice
  obtain ⟨ab, cb, rfl⟩ := h.ex.b.slice
  obtain ⟨ac, cc, rfl⟩ := h.ex.c.slice
  have hlt : bk < W.heap.size := Nat.lt_of_lt_of_le h.lt hMW
  have hb1 : Below W.heap.size W (W.alloc (.cells #[.int .i64 0, .int .i64 0, .int .i64 0, .int .i64 0] 82)) := below_alloc' _ _
  have q := fun o => hb1.cell (p := ⟨bk, o, none⟩) hlt
  have p0 := (q of).trans h.c0
  have p4 := (q (of + 4)).trans h.c4
  have p6 := (q (of + 6)).trans h.c6
  have p7 := (q (of + 7)).trans h.c7
  clear h q
  go_enter Try.func46, Try.ntmps46
  go_wp2_with fail
  go_loopw [3, 16] (fun m i wr => ∃ f1 f2 : Fx, c = f1.app f2 ∧ i = .int .i64 f1.len ∧ m = .int .i64 ((ns.length + altNames (pres f1) : Nat) : Int) ∧ wr = W.alloc (.cells #[.int .i64 0, .int .i64 0, .int .i64 0, .int .i64 0] 82)) (fun _ i _ => c.len - (intOf i).toNat)
  case atStart => exact ⟨.nil, c, rfl, rfl, rfl, rfl⟩
  case round =>
    obtain ⟨f1, f2, hf, rfl, rfl, rfl⟩ := hrel
    have HF := Lib.hid hf
    have hnl := altNames_le f1 f2
    rw [← hf] at hnl
    unfold nameCnt at hlen
    by_cases hlt1 : f1.len < c.len
    · obtain ⟨p1, k1, s1, n1, op1, ns1, x, y, z, r1, rfl⟩ := fx_cons_of HF.out hlt1
      obtain ⟨bb, oo, wn, wa, wb, wc, hv, hbb, hlc, hcm, _, hpre, _⟩ := fx_at HX.out.ex.c HF.out
      cases hv
      cases p1 with
      | no => exact absurd hpre (by simp [PreAt])
      | bind s2 => exact absurd hpre.1 (by decide)
      | alt k2 s2 n2 ns2 =>
        obtain ⟨_, _, _, _, v2, hv3, hns2⟩ := hpre
        obtain ⟨a2, c2, rfl⟩ := hns2.slice
        have g3 := (hb1.cell (p := ⟨bb, oo + f1.len * 12 + 3, none⟩) (Nat.lt_of_lt_of_le hbb hMW)).trans hv3
        have hn2 := altNames_one f1 k2 s2 n2 ns2 k1 s1 n1 op1 ns1 x y z
        have hn3 := altNames_le (f1.app (.cons (.alt k2 s2 n2 ns2) k1 s1 n1 op1 ns1 x y z .nil)) r1
        rw [Fx.app_app] at hn3
        simp only [Fx.app] at hn3
        rw [← HF.out] at hn3
        unfold maxLen at hcm
        clear hv3 hns2 hnl hf
        go_wp2_with fail
        go_roundw
        case rel => exact ⟨f1.app (.cons (.alt k2 s2 n2 ns2) k1 s1 n1 op1 ns1 x y z .nil), r1, by rw [Fx.app_app]; exact HF.out, by rw [Fx.len_app]; simp only [Fx.len]; go_num, by rw [hn2]; go_num, by first | rfl | trivial⟩
        case measure => simp [intOf]; omega
    · have e1 := fx_nil_of HF.out hlt1
      subst e1
      rw [Fx.app_nil] at hf
      subst hf
      clear hnl hb1
      have r0 := fun z => cell_al (by simp; omega) p0 z
      have r6 := fun z => cell_al (by simp; omega) p6 z
      have r7 := fun z => cell_al (by simp; omega) p7 z
      go_wp2_with fail
      have w1 : IntKind.i64.wrap (56 * (c.len : Int)) = 56 * c.len := by rw [IntKind.wrap_i64]; omega
      have w2 : IntKind.i64.wrap (136 + 56 * (c.len : Int)) = 136 + 56 * c.len := by rw [IntKind.wrap_i64]; omega
      have w3 : IntKind.i64.wrap (16 * (b.len : Int)) = 16 * b.len := by rw [IntKind.wrap_i64]; omega
      have w4 : IntKind.i64.wrap (136 + 56 * (c.len : Int) + 16 * b.len) = 136 + 56 * c.len + 16 * b.len := by rw [IntKind.wrap_i64]; omega
      have w5 : IntKind.i64.wrap (16 * ((ns.length : Int) + (altNames (pres c) : Nat))) = 16 * ((ns.length : Int) + (altNames (pres c) : Nat)) := by rw [IntKind.wrap_i64]; omega
      have w6 : IntKind.i64.wrap (136 + 56 * (c.len : Int) + 16 * b.len + 16 * ((ns.length : Int) + (altNames (pres c) : Nat))) = 136 + 56 * c.len + 16 * b.len + 16 * ((ns.length : Int) + (altNames (pres c) : Nat)) := by rw [IntKind.wrap_i64]; omega
      have w7 : IntKind.i64.wrap ((ns.length : Int) + (altNames (pres c) : Nat) + b.len + 1) = (ns.length : Int) + (altNames (pres c) : Nat) + b.len + 1 := by rw [IntKind.wrap_i64]; omega
      have hob : ((ownBytes ns b c : Nat) : Int) = 136 + 56 * c.len + 16 * b.len + 16 * ((ns.length : Int) + (altNames (pres c) : Nat)) := by unfold ownBytes nameCnt; omega
      refine region_one 18 (by kernel_rfl) (by kernel_rfl) ?_
      simp only [List.take_succ_cons, List.take_zero, List.drop_succ_cons, List.drop_zero]
      refine swk_want (by rfl) (fun K hK => ?_)
      replace hK := Lib.hid hK
      go_simp
      refine hK.out _ ?_
      clear hK K
      refine swk_want (by rfl) (fun K hK => ?_)
      replace hK := Lib.hid hK
      go_simp
      refine hK.out _ ?_
      clear hK K
      refine swk_want (by rfl) (fun K hK => ?_)
      replace hK := Lib.hid hK
      go_simp
      refine hK.out _ ?_
      clear hK K
      refine swk_want (by rfl) (fun K hK => ?_)
      replace hK := Lib.hid hK
      go_simp
      refine hK.out _ ?_
      clear hK K
      refine swk_want (by rfl) (fun K hK => ?_)
      replace hK := Lib.hid hK
      go_simp
      refine hK.out _ ?_
      clear hK K
      refine swk_want (by rfl) (fun K hK => ?_)
      replace hK := Lib.hid hK
      go_simp
      refine hK.out _ ?_
      clear hK K
      refine swk_want (by rfl) (fun K hK => ?_)
      replace hK := Lib.hid hK
      go_simp
      refine hK.out _ ?_
      clear hK K
      refine swk_want (by rfl) (fun K hK => ?_)
      replace hK := Lib.hid hK
      go_simp
      refine hK.out _ ?_
      clear hK K
      refine swk_want (by rfl) (fun K hK => ?_)
      replace hK := Lib.hid hK
      go_simp
      refine hK.out _ ?_
      clear hK K
      refine swk_want (by rfl) (fun K hK => ?_)
      replace hK := Lib.hid hK
      go_simp
      refine hK.out _ ?_
      clear hK K
      refine swk_want (by rfl) (fun K hK => ?_)
      replace hK := Lib.hid hK
      go_simp
      refine hK.out _ ?_
      clear hK K
      refine swk_want (by rfl) (fun K hK => ?_)
      replace hK := Lib.hid hK
      go_simp
      refine hK.out _ ?_
      clear hK K
      refine swk_want (by rfl) (fun K hK => ?_)
      replace hK := Lib.hid hK
      go_simp
      refine hK.out _ ?_
      clear hK K
      refine swk_want (by rfl) (fun K hK => ?_)
      replace hK := Lib.hid hK
      go_simp
      refine hK.out _ ?_
      clear hK K
      refine swk_want (by rfl) (fun K hK => ?_)
      replace hK := Lib.hid hK
      go_simp
      refine hK.out _ ?_
      clear hK K
      refine swk_want (by rfl) (fun K hK => ?_)
      replace hK := Lib.hid hK
      go_simp
      refine hK.out _ ?_
      clear hK K
      refine swk_want (by rfl) (fun K hK => ?_)
      replace hK := Lib.hid hK
      go_simp
      refine hK.out _ ?_
      clear hK K
      refine swk_want (by rfl) (fun K hK => ?_)
      replace hK := Lib.hid hK
      go_simp
      refine hK.out _ ?_
      clear hK K
      refine swk_nil ?_
      refine one_want rfl (by rfl) (fun K hK => ?_)
      replace hK := Lib.hid hK
      go_simp
      refine hK.out _ _ ?_
      clear hK K
      simp only [List.take_succ_cons, List.take_zero, List.drop_succ_cons, List.drop_zero]
      refine swk_nil ?_
      cases hk : (k == 6)
      · go_wp2_with fail
        refine bodyPost_ret (results_cell_row rfl _ _ W.heap.size 82 #[.int .i64 1, .int .i64 1, .int .i64 (136 + 56 * c.len + 16 * b.len + 16 * ((ns.length : Int) + (altNames (pres c) : Nat))), .int .i64 ((ns.length : Int) + (altNames (pres c) : Nat) + b.len)] (0, 0) (.struct extFs) rfl (hp_two W _ _) under_ext rfl size_ext) rfl ?_
        exact ⟨⟨_, by rw [hob], by omega, by omega⟩, below_same ((below_alloc' W _).alloc (by simp) _) rfl rfl rfl rfl⟩
      · go_wp2_with fail
        refine bodyPost_ret (results_cell_row rfl _ _ W.heap.size 82 #[.int .i64 1, .int .i64 1, .int .i64 (136 + 56 * c.len + 16 * b.len + 16 * ((ns.length : Int) + (altNames (pres c) : Nat))), .int .i64 ((ns.length : Int) + (altNames (pres c) : Nat) + b.len + 1)] (0, 0) (.struct extFs) rfl (hp_two W _ _) under_ext rfl size_ext) rfl ?_
        exact ⟨⟨_, by rw [hob], by omega, by omega⟩, below_same ((below_alloc' W _).alloc (by simp) _) rfl rfl rfl rfl⟩

theorem mz_set (W : World) (g o : Nat) (v : Value) : W.grownBy (W.setCell ⟨g, o, none⟩ v) (some g) := by
  have hb : Below 0 W (W.setCell ⟨g, o, none⟩ v) := (Below.refl _ _).setCell (Nat.zero_le _) _
  exact ⟨hb.os, hb.tape, hb.output, hb.size, fun k _ hk => Below.heap_setCell _ _ _ _ (fun e => hk (by rw [e]))⟩
theorem mz_drew {W W' : World} {row : Option Nat} (h : W.grownBy W' row) : W.grownBy W'.drew row := ⟨h.os, h.tape, h.output, h.size, h.block⟩
theorem sum_ok (x y : Int) (W : World) (hx : 0 ≤ x) (hy : 0 ≤ y) (hxy : x + y ≤ 9223372036854775807) : Calls Try.prog 67 #[.int .i64 x, .int .i64 y] W fun e w' => e = .returned (.int .i64 (x + y)) ∧ W = w' := by
  have h := sum_any x y W hx (by omega) hy (by omega)
  rw [if_pos hxy] at h
  exact h

set_option maxHeartbeats 4000000 in
set_option maxRecDepth 100000 in
theorem eadd_any (g o : Nat) (s d y q s2 d2 y2 q2 : Int) (cs : Array Value) (T : TypeId) (W : World) (h : W.heap[g]? = some (.cells cs T (0, 0))) (h0 : cs[o]? = some (.int .i64 s)) (h1 : cs[o + 1]? = some (.int .i64 d)) (h2 : cs[o + 2]? = some (.int .i64 y)) (h3 : cs[o + 3]? = some (.int .i64 q))
    (hs : 0 ≤ s ∧ s ≤ y) (hd : 0 ≤ d ∧ d ≤ y) (hq : 0 ≤ q ∧ q ≤ y) (hs2 : 0 ≤ s2 ∧ s2 ≤ y2) (hd2 : 0 ≤ d2 ∧ d2 ≤ y2) (hq2 : 0 ≤ q2 ∧ q2 ≤ y2) (hy : y + y2 ≤ 1099511627776) :
    Calls Try.prog 49 #[.pointer (some ⟨g, o, none⟩), .agg #[.int .i64 s2, .int .i64 d2, .int .i64 y2, .int .i64 q2]] W fun e w' => (∃ v, e = .returned v) ∧
      (∃ d', w'.heap[g]? = some (.cells ((((cs.setIfInBounds o (.int .i64 (s + s2))).setIfInBounds (o + 1) (.int .i64 d')).setIfInBounds (o + 2) (.int .i64 (y + y2))).setIfInBounds (o + 3) (.int .i64 (q + q2))) T (0, 0)) ∧ 0 ≤ d' ∧ d' ≤ max d (1 + d2)) ∧ W.grownBy w' (some g) := by
  have hg : g < W.heap.size := (Array.getElem?_eq_some_iff.1 h).1
  have c0 := cell_of h o _ h0
  have c1 := cell_of h (o + 1) _ h1
  have c2 := cell_of h (o + 2) _ h2
  have c3 := cell_of h (o + 3) _ h3
  have f0 := frozen_of h o
  have f1 := frozen_of h (o + 1)
  have f2 := frozen_of h (o + 2)
  have f3 := frozen_of h (o + 3)
  have HH := Lib.hid h
  have wd : IntKind.i64.wrap (1 + d2) = 1 + d2 := by rw [IntKind.wrap_i64]; omega
  clear h h0 h1 h2 h3
  go_enter Try.func49, Try.ntmps49
  go_wp2_with fail
  refine region_one 10 (by kernel_rfl) (by kernel_rfl) ?_
  simp only [List.take_succ_cons, List.take_zero, List.drop_succ_cons, List.drop_zero]
  refine swk_want (by rfl) (fun K hK => ?_)
  replace hK := Lib.hid hK
  go_simp
  refine hK.out _ ?_
  clear hK K
  refine swk_want (by rfl) (fun K hK => ?_)
  replace hK := Lib.hid hK
  go_simp
  refine hK.out _ ?_
  clear hK K
  refine swk_want (by rfl) (fun K hK => ?_)
  replace hK := Lib.hid hK
  go_simp
  refine hK.out _ ?_
  clear hK K
  refine swk_want (by rfl) (fun K hK => ?_)
  replace hK := Lib.hid hK
  go_simp
  refine hK.out _ ?_
  clear hK K
  refine swk_want (by rfl) (fun K hK => ?_)
  replace hK := Lib.hid hK
  go_simp
  refine hK.out _ ?_
  clear hK K
  refine swk_want (by rfl) (fun K hK => ?_)
  replace hK := Lib.hid hK
  go_simp
  refine hK.out _ ?_
  clear hK K
  refine swk_want (by rfl) (fun K hK => ?_)
  replace hK := Lib.hid hK
  go_simp
  refine hK.out _ ?_
  clear hK K
  refine swk_want (by rfl) (fun K hK => ?_)
  replace hK := Lib.hid hK
  go_simp
  refine ⟨_, (sum_ok s s2 _ (by omega) (by omega) (by omega)).mono (fun _ _ h => ⟨h.1, h.2.symm⟩), ?_⟩
  refine hK.out _ ?_
  clear hK K
  refine swk_want (by rfl) (fun K hK => ?_)
  replace hK := Lib.hid hK
  go_simp
  refine hK.out _ ?_
  clear hK K
  refine swk_want (by rfl) (fun K hK => ?_)
  replace hK := Lib.hid hK
  go_simp
  refine hK.out _ ?_
  clear hK K
  refine swk_nil ?_
  refine one_want rfl (by rfl) (fun K hK => ?_)
  replace hK := Lib.hid hK
  go_simp
  refine hK.out _ _ ?_
  clear hK K
  simp only [List.take_succ_cons, List.take_zero, List.drop_succ_cons, List.drop_zero]
  refine swk_nil ?_
  go_wp2_with fail
  refine region_one 11 (by kernel_rfl) (by kernel_rfl) ?_
  simp only [List.take_succ_cons, List.take_zero, List.drop_succ_cons, List.drop_zero]
  refine swk_want (by rfl) (fun K hK => ?_)
  replace hK := Lib.hid hK
  go_simp
  refine hK.out _ ?_
  clear hK K
  refine swk_want (by rfl) (fun K hK => ?_)
  replace hK := Lib.hid hK
  go_simp
  refine hK.out _ ?_
  clear hK K
  refine swk_want (by rfl) (fun K hK => ?_)
  replace hK := Lib.hid hK
  go_simp
  refine hK.out _ ?_
  clear hK K
  refine swk_want (by rfl) (fun K hK => ?_)
  replace hK := Lib.hid hK
  go_simp
  refine hK.out _ ?_
  clear hK K
  refine swk_want (by rfl) (fun K hK => ?_)
  replace hK := Lib.hid hK
  go_simp
  refine hK.out _ ?_
  clear hK K
  refine swk_want (by rfl) (fun K hK => ?_)
  replace hK := Lib.hid hK
  go_simp
  refine hK.out _ ?_
  clear hK K
  refine swk_want (by rfl) (fun K hK => ?_)
  replace hK := Lib.hid hK
  go_simp
  refine hK.out _ ?_
  clear hK K
  refine swk_want (by rfl) (fun K hK => ?_)
  replace hK := Lib.hid hK
  go_simp
  refine hK.out _ ?_
  clear hK K
  refine swk_want (by rfl) (fun K hK => ?_)
  replace hK := Lib.hid hK
  go_simp
  refine hK.out _ ?_
  clear hK K
  refine swk_want (by rfl) (fun K hK => ?_)
  replace hK := Lib.hid hK
  go_simp
  refine hK.out _ ?_
  clear hK K
  refine swk_want (by rfl) (fun K hK => ?_)
  replace hK := Lib.hid hK
  go_simp
  refine hK.out _ ?_
  clear hK K
  refine swk_nil ?_
  refine one_want rfl (by rfl) (fun K hK => ?_)
  replace hK := Lib.hid hK
  go_simp
  refine hK.out _ _ ?_
  clear hK K
  simp only [List.take_succ_cons, List.take_zero, List.drop_succ_cons, List.drop_zero]
  refine swk_nil ?_
  go_wp2_with fail
  refine region_one 10 (by kernel_rfl) (by kernel_rfl) ?_
  simp only [List.take_succ_cons, List.take_zero, List.drop_succ_cons, List.drop_zero]
  refine swk_want (by rfl) (fun K hK => ?_)
  replace hK := Lib.hid hK
  go_simp
  refine hK.out _ ?_
  clear hK K
  refine swk_want (by rfl) (fun K hK => ?_)
  replace hK := Lib.hid hK
  go_simp
  refine hK.out _ ?_
  clear hK K
  refine swk_want (by rfl) (fun K hK => ?_)
  replace hK := Lib.hid hK
  go_simp
  refine hK.out _ ?_
  clear hK K
  refine swk_want (by rfl) (fun K hK => ?_)
  replace hK := Lib.hid hK
  go_simp
  refine hK.out _ ?_
  clear hK K
  refine swk_want (by rfl) (fun K hK => ?_)
  replace hK := Lib.hid hK
  go_simp
  refine hK.out _ ?_
  clear hK K
  refine swk_want (by rfl) (fun K hK => ?_)
  replace hK := Lib.hid hK
  go_simp
  refine hK.out _ ?_
  clear hK K
  refine swk_want (by rfl) (fun K hK => ?_)
  replace hK := Lib.hid hK
  go_simp
  refine hK.out _ ?_
  clear hK K
  refine swk_want (by rfl) (fun K hK => ?_)
  replace hK := Lib.hid hK
  go_simp
  refine ⟨_, (sum_ok y y2 _ (by omega) (by omega) (by omega)).mono (fun _ _ h => ⟨h.1, h.2.symm⟩), ?_⟩
  refine hK.out _ ?_
  clear hK K
  refine swk_want (by rfl) (fun K hK => ?_)
  replace hK := Lib.hid hK
  go_simp
  refine hK.out _ ?_
  clear hK K
  refine swk_want (by rfl) (fun K hK => ?_)
  replace hK := Lib.hid hK
  go_simp
  refine hK.out _ ?_
  clear hK K
  refine swk_nil ?_
  refine one_want rfl (by rfl) (fun K hK => ?_)
  replace hK := Lib.hid hK
  go_simp
  refine hK.out _ _ ?_
  clear hK K
  simp only [List.take_succ_cons, List.take_zero, List.drop_succ_cons, List.drop_zero]
  refine swk_nil ?_
  go_wp2_with fail
  refine region_one 10 (by kernel_rfl) (by kernel_rfl) ?_
  simp only [List.take_succ_cons, List.take_zero, List.drop_succ_cons, List.drop_zero]
  refine swk_want (by rfl) (fun K hK => ?_)
  replace hK := Lib.hid hK
  go_simp
  refine hK.out _ ?_
  clear hK K
  refine swk_want (by rfl) (fun K hK => ?_)
  replace hK := Lib.hid hK
  go_simp
  refine hK.out _ ?_
  clear hK K
  refine swk_want (by rfl) (fun K hK => ?_)
  replace hK := Lib.hid hK
  go_simp
  refine hK.out _ ?_
  clear hK K
  refine swk_want (by rfl) (fun K hK => ?_)
  replace hK := Lib.hid hK
  go_simp
  refine hK.out _ ?_
  clear hK K
  refine swk_want (by rfl) (fun K hK => ?_)
  replace hK := Lib.hid hK
  go_simp
  refine hK.out _ ?_
  clear hK K
  refine swk_want (by rfl) (fun K hK => ?_)
  replace hK := Lib.hid hK
  go_simp
  refine hK.out _ ?_
  clear hK K
  refine swk_want (by rfl) (fun K hK => ?_)
  replace hK := Lib.hid hK
  go_simp
  refine hK.out _ ?_
  clear hK K
  refine swk_want (by rfl) (fun K hK => ?_)
  replace hK := Lib.hid hK
  go_simp
  refine ⟨_, (sum_ok q q2 _ (by omega) (by omega) (by omega)).mono (fun _ _ h => ⟨h.1, h.2.symm⟩), ?_⟩
  refine hK.out _ ?_
  clear hK K
  refine swk_want (by rfl) (fun K hK => ?_)
  replace hK := Lib.hid hK
  go_simp
  refine hK.out _ ?_
  clear hK K
  refine swk_want (by rfl) (fun K hK => ?_)
  replace hK := Lib.hid hK
  go_simp
  refine hK.out _ ?_
  clear hK K
  refine swk_nil ?_
  refine one_want rfl (by rfl) (fun K hK => ?_)
  replace hK := Lib.hid hK
  go_simp
  refine hK.out _ _ ?_
  clear hK K
  simp only [List.take_succ_cons, List.take_zero, List.drop_succ_cons, List.drop_zero]
  refine swk_nil ?_
  go_wp2_with fail
  go_end0
  have hh := heap_set (o := o + 3) (heap_set (o := o + 2) (heap_set (o := o + 1) (heap_set (o := o) HH.out (.int .i64 (s + s2))) (.int .i64 (max d (1 + d2)))) (.int .i64 (y + y2))) (.int .i64 (q + q2))
  refine ⟨⟨_, rfl⟩, ⟨max d (1 + d2), ?_, by omega, Int.le_refl _⟩, ?_⟩
  · exact (Below.heap_alloc _ _ g (Array.getElem?_eq_some_iff.1 hh).1).trans hh
  · exact mz_drew (mz_drew (mz_drew (mz_drew (((((mz_set W g o _).trans (mz_set _ g (o + 1) _)).trans (mz_set _ g (o + 2) _)).trans (mz_set _ g (o + 3) _)).trans (World.grownBy_alloc _ _ _)))))
end Go.Proofs.Ytkdpojmbahjdjaa
