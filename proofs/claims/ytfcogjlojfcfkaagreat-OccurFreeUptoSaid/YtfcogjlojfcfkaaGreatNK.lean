/- What is asked of package occur, and of the law awake. No condition. -/
import Derived.Test.YtfcogjlojfcfkaaGreatMN
import Derived.Test.YtfcogjlojfcfkaaGreatMO
import Derived.OwnWalk
import Derived.Test.YtfcogjlojfcfkaaGreatNJ
section
namespace Go.Proofs.YtfcogjlojfcfkaaGreat
open Go.RowKit Ex0
attribute [local go_sem] bt_size bt_list bt_toList

/-- Few enough steps and parts for the counter. -/
def fits (ns : List (List UInt8)) (a b c : Fx) : Prop := (parts a b c).count ≤ 131071 ∧ costE ns a b c ≤ 1048576
/-- What is asked of package occur: how often a name stands in an expression, and where. -/
def UsesC : Prop := ∀ (k : Int) (s : List UInt8) (nn op : Int) (vn va vb vc : Value) (ns : List (List UInt8)) (a b c : Fx) (x : List UInt8) (w : World), fits ns a b c → x.length ≤ 1048576 → rightB k s nn op ns a b c = true → ExV (Old w.heap.size) w vn va vb vc ns a b c →
    Calls Tryz.prog 7 #[exV k s nn op vn va vb vc, .string (bt x)] w fun e w' => e = .returned (.tuple #[.int .i64 (usesE x k s ns a b c).1, .bool (usesE x k s ns a b c).2]) ∧ Below w.heap.size w w'
def OnceC : Prop := ∀ (k : Int) (s : List UInt8) (nn op : Int) (vn va vb vc : Value) (ns : List (List UInt8)) (a b c : Fx) (x : List UInt8) (w : World), fits ns a b c → x.length ≤ 1048576 → rightB k s nn op ns a b c = true → ExV (Old w.heap.size) w vn va vb vc ns a b c →
    Calls Tryz.prog 15 #[exV k s nn op vn va vb vc, .string (bt x)] w fun e w' => e = .returned (.bool ((((usesE x k s ns a b c).1 : Int) == 1) && !(usesE x k s ns a b c).2)) ∧ Below w.heap.size w w'
def AwakeC : Prop := ∀ (w : World), Calls Tryz.prog 6 #[] w fun e w' => e = .returned (.bool true) ∧ Below w.heap.size w w'
end Go.Proofs.YtfcogjlojfcfkaaGreat
end

section
namespace Go.Proofs.YtfcogjlojfcfkaaGreat
open Go.RowKit Go.Shelf Ex0
attribute [local go_sem] bt_size bt_list bt_toList

theorem uses_start {w : World} {k : Int} {s : List UInt8} {nn op : Int} {vn va vb vc : Value} {ns : List (List UInt8)} {a b c : Fx} (x : List UInt8) (hv : ExV (Old w.heap.size) w vn va vb vc ns a b c) {W : World}
    (hW : W = ((w.alloc (exBox k s nn op vn va vb vc)).alloc (.map #[] 0)).alloc (.cells #[.string (bt x), .int .i64 1048576, .map (some (w.heap.size + 1)), .bool false] 47)) :
    ExL (w.heap.size + 1) W w.heap.size 0 k s nn op vn va vb vc ns a b c ∧ Ctr W (w.heap.size + 1 + 1) (w.heap.size + 1) x 1048576 ∧ w.heap.size + 1 ≤ W.heap.size ∧ Below w.heap.size w W := by
  subst hW
  have hb : Below w.heap.size w (((w.alloc (exBox k s nn op vn va vb vc)).alloc (.map #[] 0)).alloc (.cells #[.string (bt x), .int .i64 1048576, .map (some (w.heap.size + 1)), .bool false] 47)) := (((Below.refl _ _).alloc (Nat.le_refl _) _).alloc (by simp) _).alloc (by simp <;> omega) _
  have hb1 : Below (w.heap.size + 1) (w.alloc (exBox k s nn op vn va vb vc)) (((w.alloc (exBox k s nn op vn va vb vc)).alloc (.map #[] 0)).alloc (.cells #[.string (bt x), .int .i64 1048576, .map (some (w.heap.size + 1)), .bool false] 47)) := (((Below.refl _ _).alloc (by simp) _).alloc (by simp <;> omega) _)
  obtain ⟨c0, c1, c2, c3, c4, c5, c6, c7⟩ := exBox_cell (Nat.lt_succ_self _) hb1
  exact ⟨⟨Nat.lt_succ_self _, c0, c1, c2, c3, c4, c5, c6, c7, hv.keep fun b hb' => ⟨Nat.lt_succ_of_lt hb', fun o => hb.cell (p := ⟨b, o, none⟩) hb'⟩⟩,
    ⟨hp_new _ _ (by simp), hp_al (hp_new _ _ (by simp)) _⟩, by simp <;> omega, hb⟩

set_option maxHeartbeats 2000000 in
set_option maxRecDepth 100000 in
theorem uses_c : UsesC := by
  intro k s nn op vn va vb vc ns a b c x w hfit hx hr hv
  obtain ⟨an, cn, rfl⟩ := hv.ns.slice
  obtain ⟨aa, ca, rfl⟩ := hv.a.slice
  obtain ⟨ab, cb', rfl⟩ := hv.b.slice
  obtain ⟨ac, cc, rfl⟩ := hv.c.slice
  have HV := Lib.hid hv
  have HSh := Lib.hid (show shapeB k s nn op ns a b c = true by unfold rightB at hr; simp only [Bool.and_eq_true] at hr; exact hr.1)
  obtain ⟨hf1, hf2⟩ := hfit
  have hmm := @run_makeMap Tryz.prog
  obtain ⟨⟨m, q⟩, hU⟩ : ∃ U, usesE x k s ns a b c = U := ⟨_, rfl⟩
  rw [hU]
  have HU := Lib.hid hU
  clear hv hr hU
  unfold exV
  go_enter Tryz.func7, Tryz.ntmps7
  go_wp2_with fail
  obtain ⟨W, hW⟩ : ∃ W, W = ((w.alloc (exBox k s nn op (.slice an ns.length cn) (.slice aa a.len ca) (.slice ab b.len cb') (.slice ac c.len cc))).alloc (.map #[] 0)).alloc (.cells #[.string (bt x), .int .i64 1048576, .map (some (w.heap.size + 1)), .bool false] 47) := ⟨_, rfl⟩
  obtain ⟨hE, hC, hMw, hbW⟩ := uses_start x HV.out hW
  have hcon := count_any (w.heap.size + 1 + 1) (w.heap.size + 1) (w.heap.size + 1) x _ w.heap.size 0 k s nn op _ _ _ _ ns a b c 1 1048576 W (Nat.lt_succ_self _) (by decide) (by omega) (by omega) hMw hE hC (by omega) (by decide) HSh.out (by omega)
  rw [HU.out, hW] at hcon
  refine hcon.mono ?_
  rw [← hW]
  clear hcon hE hC
  rintro e w2 ⟨rfl, ct, p', cr, -, -⟩
  have hcl := (ctr_lt cr).1
  have z3 := cell_al hcl (ctr_cell cr).2.2.2.1
  have HB := Lib.hid (hbW.trans (ct.below (M := w.heap.size) (by omega) (by omega)))
  clear ct cr hbW hW hMw hcl
  go_wp2_with fail
  go_quiet (fail)
  go_wp2_with fail
  go_ret2
  exact ⟨rfl, below_same (HB.out.alloc HB.out.size _) rfl rfl rfl rfl⟩

set_option maxHeartbeats 2000000 in
theorem once_c : OnceC := by
  intro k s nn op vn va vb vc ns a b c x w hfit hx hr hv
  obtain ⟨an, cn, rfl⟩ := hv.ns.slice
  obtain ⟨aa, ca, rfl⟩ := hv.a.slice
  obtain ⟨ab, cb', rfl⟩ := hv.b.slice
  obtain ⟨ac, cc, rfl⟩ := hv.c.slice
  have HV := Lib.hid hv
  have HR := Lib.hid hr
  have HFi := Lib.hid hfit
  clear hv hr hfit
  obtain ⟨⟨m, q⟩, hU⟩ : ∃ U, usesE x k s ns a b c = U := ⟨_, rfl⟩
  rw [hU]
  have HU := Lib.hid hU
  clear hU
  dsimp only
  unfold exV
  go_enter Tryz.func15, Tryz.ntmps15
  go_wp2_with fail
  have hcon := uses_c k s nn op _ _ _ _ ns a b c x _ HFi.out hx HR.out (HV.out.keep (keep_up (below_alloc' w (exBox k s nn op (.slice an ns.length cn) (.slice aa a.len ca) (.slice ab b.len cb') (.slice ac c.len cc))) (Nat.le_refl _)))
  rw [HU.out] at hcon
  refine hcon.mono ?_
  clear hcon
  rintro e w2 ⟨rfl, hb2⟩
  have HB2 := Lib.hid (below_old (show Below (w.heap.size + 1) (w.alloc (exBox k s nn op (.slice an ns.length cn) (.slice aa a.len ca) (.slice ab b.len cb') (.slice ac c.len cc))) w2 from hb2.mono (by simp)))
  clear hb2
  cases h1 : ((m : Int) == 1)
  all_goals
    cases q
    all_goals
      have H1 := Lib.hid h1
      go_wp2_with fail
      go_ret
      exact ⟨by first | rfl | (rw [H1.out]; rfl) | (simp [H1.out]; done), HB2.out⟩
end Go.Proofs.YtfcogjlojfcfkaaGreat
end
