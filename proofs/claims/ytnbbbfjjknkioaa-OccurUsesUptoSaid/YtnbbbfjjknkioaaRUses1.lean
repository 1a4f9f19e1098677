/- The contract of the reference's Uses: variables, and what a Lam binds. A bound on how many expressions there are. -/
import Derived.Test.YtnbbbfjjknkioaaRUsesD
namespace Go.Proofs.Ytnbbbfjjknkioaa
open Go.RowKit Ex0
attribute [local go_sem] bt_size bt_list bt_toList

set_option maxHeartbeats 4000000 in
set_option maxRecDepth 100000 in
theorem ruses_var (n : Nat) (ih : RUsesC n) (k : Int) (s : List UInt8) (nn op : Int) (vn va vb vc : Value) (ns : List (List UInt8)) (a b c : Fx) (x : List UInt8) (w : World) (hn : (parts a b c).count < n + 1) (hb : a.wt + b.wt + c.wt + nsWt ns ≤ 1048576)
    (hv : ExV (Old w.heap.size) w vn va vb vc ns a b c) (h1 : (k == 1) = true) : Calls Try.prog 8 #[exV k s nn op vn va vb vc, .string (bt x)] w fun e w' => e = .returned (.tuple #[.int .i64 (usesE x k s ns a b c).1, .bool (usesE x k s ns a b c).2]) ∧ Below w.heap.size w w' := by
  obtain ⟨an, cn, rfl⟩ := hv.ns.slice
  obtain ⟨aa, ca, rfl⟩ := hv.a.slice
  obtain ⟨ab, cb, rfl⟩ := hv.b.slice
  obtain ⟨ac, cc, rfl⟩ := hv.c.slice
  have HV := Lib.hid hv
  have hlen : a.len + b.len + c.len ≤ 1048576 := by have := a.len_le; have := b.len_le; have := c.len_le; have := a.count_wt; have := b.count_wt; have := c.count_wt; omega
  clear hv
  unfold exV
  by_cases hs : s = x
  · have HT := Lib.hid (show usesE x k s ns a b c = (1, false) by rw [usesE_var h1, if_pos hs])
    subst hs
    go_enter Try.func8, Try.ntmps8
    go_wp2_with fail
    go_ret2
    exact ⟨by rw [HT.out]; rfl, below_alloc' _ _⟩
  · have HT := Lib.hid (show usesE x k s ns a b c = (0, false) by rw [usesE_var h1, if_neg hs])
    have hbs : (s == x) = false := by simpa using hs
    clear hs
    go_enter Try.func8, Try.ntmps8
    go_wp2_with fail
    go_ret2
    exact ⟨by rw [HT.out]; rfl, below_alloc' _ _⟩

set_option maxHeartbeats 4000000 in
set_option maxRecDepth 100000 in
theorem ruses_lam (n : Nat) (ih : RUsesC n) (k : Int) (s : List UInt8) (nn op : Int) (vn va vb vc : Value) (ns : List (List UInt8)) (a b c : Fx) (x : List UInt8) (w : World) (hn : (parts a b c).count < n + 1) (hb : a.wt + b.wt + c.wt + nsWt ns ≤ 1048576)
    (hv : ExV (Old w.heap.size) w vn va vb vc ns a b c) (h1 : (k == 1) = false) (h3 : (k == 3) = true) (hm : x ∈ ns) : Calls Try.prog 8 #[exV k s nn op vn va vb vc, .string (bt x)] w fun e w' => e = .returned (.tuple #[.int .i64 (usesE x k s ns a b c).1, .bool (usesE x k s ns a b c).2]) ∧ Below w.heap.size w w' := by
  obtain ⟨an, cn, rfl⟩ := hv.ns.slice
  obtain ⟨aa, ca, rfl⟩ := hv.a.slice
  obtain ⟨ab, cb, rfl⟩ := hv.b.slice
  obtain ⟨ac, cc, rfl⟩ := hv.c.slice
  have HV := Lib.hid hv
  have hlen : a.len + b.len + c.len ≤ 1048576 := by have := a.len_le; have := b.len_le; have := c.len_le; have := a.count_wt; have := b.count_wt; have := c.count_wt; omega
  clear hv
  unfold exV
  have hnl : ns.length ≤ 1048576 := by have := nsWt_le ns; omega
  have HT := Lib.hid (show usesE x k s ns a b c = (0, false) from usesE_lam h1 h3 hm)
  have hd : decide (x ∈ ns) = true := decide_eq_true hm
  clear hm
  go_enter Try.func8, Try.ntmps8
  go_wp2_with fail
  refine (has_any _ ns x _ hnl (HV.out.ns.keep (keep_up (below_alloc' _ _) (Nat.le_refl _)))).mono ?_
  rintro e w' ⟨rfl, rfl⟩
  go_wp2_with fail
  go_ret2
  exact ⟨by rw [HT.out]; rfl, below_alloc' _ _⟩
end Go.Proofs.Ytnbbbfjjknkioaa
