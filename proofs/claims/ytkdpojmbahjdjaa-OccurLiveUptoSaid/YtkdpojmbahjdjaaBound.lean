/- Whether a name is among those that binds bind: the library's IndexFunc and ContainsFunc, and the counter's isBound. No condition but a bound on how many binds there are. -/
import Derived.Test.YtkdpojmbahjdjaaAmong
import Derived.Test.YtkdpojmbahjdjaaUseR
import Derived.Shelf.Abstract
namespace Go.Proofs.Ytkdpojmbahjdjaa
open Go.RowKit Go.Shelf Ex0
attribute [local go_sem] bt_size bt_list bt_toList

set_option maxHeartbeats 1000000 in
theorem bound1_any (bx cb kb : Nat) (s : List UInt8) (v1 v2 v3 v4 v5 v6 v7 v8 : Value) (x : List UInt8) (p : Int) (w : World) (hb : w.cell? ⟨bx, 0, none⟩ = some (.pointer (some ⟨cb, 0, none⟩))) (hc : Ctr w cb kb x p) :
    Calls Try.prog 66 #[.agg #[.string (bt s), v1, v2, v3, v4, v5, v6, v7, v8], .pointer (some ⟨bx, 0, none⟩)] w fun e w' => e = .returned (.bool (s == x)) ∧ Below w.heap.size w w' := by
  obtain ⟨c0, _⟩ := ctr_cell hc
  have hbl := World.block_lt_of_cell? w _ hb
  have hcl := (ctr_lt hc).1
  have z0 := cell_al hbl hb
  have z1 := cell_al hcl c0
  clear hc hbl hcl hb c0
  go_enter Try.func66, Try.ntmps66
  go_wp2_with fail
  go_quiet (fail)
  go_wp2_with fail
  go_ret
  exact ⟨rfl, below_same (below_alloc' _ _) rfl rfl rfl rfl⟩

theorem binds_left {x : List UInt8} {p : Pre} {k : Int} {s : List UInt8} {n op : Int} {ns : List (List UInt8)} {a b c f1 r : Fx} (h : decide (p = .bind x) = true) : bindsX x (f1.app (.cons p k s n op ns a b c r)) = true := by
  rw [bindsX_app]; simp only [bindsX, h, Bool.true_or, Bool.or_true]
theorem binds_next {x : List UInt8} {p : Pre} {k : Int} {s : List UInt8} {n op : Int} {ns : List (List UInt8)} {a b c f1 : Fx} (h1 : bindsX x f1 = false) (h : decide (p = .bind x) = false) : bindsX x (f1.app (.cons p k s n op ns a b c .nil)) = false := by
  rw [bindsX_app, h1]; simp only [bindsX, h, Bool.or_false]

set_option maxHeartbeats 2000000 in
set_option maxRecDepth 100000 in
theorem indexf_any (bx cb kb : Nat) (v : Value) (b : Fx) (x : List UInt8) (p : Int) (w : World) (M : Nat) (hl : b.len ≤ 1048576) (hv : FxV (Old M) w 1 v b) (hMw : M ≤ w.heap.size) (hb : w.cell? ⟨bx, 0, none⟩ = some (.pointer (some ⟨cb, 0, none⟩))) (hc : Ctr w cb kb x p) :
    Calls Try.prog 80 #[v, .func (.func 66) #[] #[.pointer (some ⟨bx, 0, none⟩)]] w fun e w' => (∃ i : Int, e = .returned (.int .i64 i) ∧ (0 ≤ i ↔ bindsX x b = true)) ∧ Below w.heap.size w w' := by
  obtain ⟨a, c, rfl⟩ := hv.slice
  have HV := Lib.hid hv
  have HBx := Lib.hid hb
  have HC := Lib.hid hc
  have hbl := World.block_lt_of_cell? w _ hb
  have hcl := ctr_lt hc
  clear hv hb hc
  go_enter Try.func80, Try.ntmps80
  go_wp2_with fail
  go_loopw [8] (fun i wr => ∃ f1 f2 : Fx, b = f1.app f2 ∧ i = .int .i64 f1.len ∧ bindsX x f1 = false ∧ Below w.heap.size w wr) (fun i _ => b.len - (intOf i).toNat)
  case atStart => exact ⟨.nil, b, rfl, rfl, rfl, Below.refl _ _⟩
  case round =>
    obtain ⟨f1, f2, hf, rfl, hno, hbel⟩ := hrel
    have HF := Lib.hid hf
    have HN := Lib.hid hno
    have HB := Lib.hid hbel
    have HW := hbel.size
    have hbw := (hbel.cell (p := ⟨bx, 0, none⟩) hbl).trans HBx.out
    have HCw := Lib.hid (show Ctr wr cb kb x p from ⟨(hbel.block cb hcl.1).trans HC.out.1, (hbel.block kb hcl.2.1).trans HC.out.2⟩)
    clear hf hno hbel
    have hfl := congrArg Fx.len HF.out
    rw [Fx.len_app] at hfl
    cases f2 with
    | nil =>
      rw [Fx.app_nil] at HF
      have hlt : ¬ f1.len < b.len := by simp only [Fx.len] at hfl; omega
      have HT := Lib.hid (show bindsX x b = false by rw [HF.out]; exact HN.out)
      clear hfl
      go_wp2_with fail
      go_ret
      exact ⟨⟨_, rfl, by simp [HT.out]⟩, HB.out⟩
    | cons p1 k1 s1 n1 op1 ns1 xa xb xc r =>
      have hlt : f1.len < b.len := by simp only [Fx.len] at hfl; omega
      obtain ⟨bb, oo, xn, va, vb, vc, rfl, hbb, hlc, hcm, _, hp, c0, c1, c2, c3, c4, c5, c6, c7, hx⟩ := fx_at (HV.out.keep (keep_below (HB.out.mono hMw) fun _ h => h)) HF.out
      clear hx hfl
      cases p1 with
      | no => exact absurd (show (1 : Nat) = 0 from hp) (by decide)
      | alt k s n ns => exact absurd hp.1 (by decide)
      | bind t =>
        obtain ⟨_, e0⟩ := hp
        simp only [Nat.reduceAdd] at e0 c0 c1 c2 c3 c4 c5 c6 c7
        unfold maxLen at hcm
        go_wp2_with fail
        refine (bound1_any bx cb kb t _ _ _ _ _ _ _ _ x p _ hbw HCw.out).mono ?_
        rintro e w3 ⟨rfl, hb3⟩
        have HB3 := Lib.hid (blwS HB.out hb3 HW)
        clear hb3
        cases hq : (t == x) with
        | true =>
          have HT := Lib.hid (show bindsX x b = true by rw [HF.out]; exact binds_left (by simpa using hq))
          clear hq
          go_wp2_with fail
          go_ret
          exact ⟨⟨_, rfl, by simp [HT.out]⟩, HB3.out⟩
        | false =>
          have HT := Lib.hid (show decide (Pre.bind t = .bind x) = false by simpa using hq)
          clear hq
          go_wp2_with fail
          go_roundw
          case rel => exact ⟨f1.app (.cons (.bind t) k1 s1 n1 op1 ns1 xa xb xc .nil), r, by rw [Fx.app_app]; exact HF.out, by rw [Fx.len_app]; simp only [Fx.len]; go_num, binds_next HN.out HT.out, HB3.out⟩
          case measure => simp [intOf]; omega

theorem containsf_any (bx cb kb : Nat) (v : Value) (b : Fx) (x : List UInt8) (p : Int) (w : World) (M : Nat) (hl : b.len ≤ 1048576) (hv : FxV (Old M) w 1 v b) (hMw : M ≤ w.heap.size) (hb : w.cell? ⟨bx, 0, none⟩ = some (.pointer (some ⟨cb, 0, none⟩))) (hc : Ctr w cb kb x p) :
    Calls Try.prog 65 #[v, .func (.func 66) #[] #[.pointer (some ⟨bx, 0, none⟩)]] w fun e w' => e = .returned (.bool (bindsX x b)) ∧ Below w.heap.size w w' := by
  obtain ⟨a, c, rfl⟩ := hv.slice
  have HV := Lib.hid hv
  have HBx := Lib.hid hb
  have HC := Lib.hid hc
  clear hv hb hc
  go_enter Try.func65, Try.ntmps65
  go_wp2_with fail
  refine (indexf_any bx cb kb _ b x p _ M hl HV.out hMw HBx.out HC.out).mono ?_
  rintro e w2 ⟨⟨i, rfl, hi⟩, hb2⟩
  have HI := Lib.hid (show decide (i ≥ 0) = bindsX x b by
    cases h : bindsX x b with
    | true => exact decide_eq_true (hi.2 h)
    | false => exact decide_eq_false (fun k => by rw [hi.1 k] at h; cases h))
  have HB2 := Lib.hid hb2
  clear hi hb2
  go_wp2_with fail
  go_ret
  exact ⟨by rw [← HI.out]; rfl, HB2.out⟩

set_option maxHeartbeats 1000000 in
theorem isbound_any (cb kb : Nat) (v : Value) (b : Fx) (x : List UInt8) (p : Int) (w : World) (M : Nat) (hl : b.len ≤ 1048576) (hv : FxV (Old M) w 1 v b) (hM : M ≤ cb) (hMw : M ≤ w.heap.size) (hc : Ctr w cb kb x p) (hp : 0 ≤ p ∧ p ≤ 1048576) :
    Calls Try.prog 45 #[.pointer (some ⟨cb, 0, none⟩), v] w fun e w' => e = .returned (.bool (bindsX x b)) ∧ Ct cb w w' ∧ Ctr w' cb kb x (p - b.len) := by
  obtain ⟨a, c, rfl⟩ := hv.slice
  have HV := Lib.hid hv
  have hlt := ctr_lt hc
  have hc2 : Ctr ((w.setCell ⟨cb, 1, none⟩ (.int .i64 (p - b.len))).alloc (.cells #[.pointer (some ⟨cb, 0, none⟩)] 54)) cb kb x (p - b.len) := (ctr_set hc _).alloc _
  have hct := ((Ct.refl cb w).set (b := cb) (o := 1) (.inl rfl) (.int .i64 (p - b.len))).trans (Ct.alloc cb _ (.cells #[.pointer (some ⟨cb, 0, none⟩)] 54))
  have HBx := Lib.hid (show ((w.setCell ⟨cb, 1, none⟩ (.int .i64 (p - b.len))).alloc (.cells #[.pointer (some ⟨cb, 0, none⟩)] 54)).cell? ⟨w.heap.size, 0, none⟩ = some (.pointer (some ⟨cb, 0, none⟩)) by simp [go_sem])
  obtain ⟨c0, c1, c2, c3, f1⟩ := ctr_cell hc
  have HC2 := Lib.hid hc2
  have HCt := Lib.hid hct
  have hp0 := hp.1
  have hp1 := hp.2
  clear hv hc hp hc2 hct
  go_enter Try.func45, Try.ntmps45
  go_wp2_with fail
  refine (containsf_any w.heap.size cb kb _ b x _ _ M hl (HV.out.keep (keep_ct HCt.out hM hMw)) (Nat.le_trans hMw HCt.out.size) HBx.out HC2.out).mono ?_
  rintro e w2 ⟨rfl, hb2⟩
  have hl2 := ctr_lt HC2.out
  have HF := Lib.hid (show Ct cb w w2 ∧ Ctr w2 cb kb x (p - b.len) from ⟨HCt.out.trans (Ct.of_below hb2), (hb2.block cb hl2.1).trans HC2.out.1, (hb2.block kb hl2.2.1).trans HC2.out.2⟩)
  clear hb2 hl2
  go_wp2_with fail
  go_ret
  exact ⟨rfl, HF.out⟩
end Go.Proofs.Ytkdpojmbahjdjaa
