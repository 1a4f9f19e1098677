/- OccurUses returns true for an expression and a name, given what package occur and awake answer. A bound on how great the expression is. -/
import Derived.Test.YtnbbbfjjknkioaaRUses
import Derived.Test.YtnbbbfjjknkioaaAdds
import Derived.Deep.RegionHeld3
namespace Go.Proofs.Ytnbbbfjjknkioaa
open Go.RowKit Ex0

set_option maxHeartbeats 4000000 in
set_option maxRecDepth 100000 in
theorem uses_law (HU : UsesC) (HO : OnceC) (HA : AwakeC) (k : Int) (s : List UInt8) (nn op : Int) (vn va vb vc : Value) (ns : List (List UInt8)) (a b c : Fx) (x : List UInt8) (w : World) (hb : a.wt + b.wt + c.wt + nsWt ns + 8 ≤ 1048576) (hx : x.length ≤ 1048576)
    (hv : ExV (Old w.heap.size) w vn va vb vc ns a b c) :
    Calls Try.prog 3 #[exV k s nn op vn va vb vc, .string (bt x)] w fun e w' => e = .returned (.bool true) ∧ Below w.heap.size w w' := by
  obtain ⟨an, cn, rfl⟩ := hv.ns.slice
  obtain ⟨aa, ca, rfl⟩ := hv.a.slice
  obtain ⟨ab, cb, rfl⟩ := hv.b.slice
  obtain ⟨ac, cc, rfl⟩ := hv.c.slice
  have HV := Lib.hid hv
  clear hv
  have hcnt : (parts a b c).count ≤ 1048576 := by have := a.count_wt; have := b.count_wt; have := c.count_wt; rw [parts_count]; omega
  have hfit : fits ns a b c := ⟨by have := a.count_wt9; have := b.count_wt9; have := c.count_wt9; rw [parts_count]; omega, by have := costE_wt ns a b c; omega⟩
  obtain ⟨⟨m, q⟩, hU⟩ : ∃ U, usesE x k s ns a b c = U := ⟨_, rfl⟩
  obtain ⟨Z, hZ⟩ : ∃ Z, (((m : Int) == 1) && !q) = Z := ⟨_, rfl⟩
  have HUe := Lib.hid hU
  have HZ := Lib.hid hZ
  clear hU hZ
  unfold exV
  go_enter Try.func3, Try.ntmps3
  go_wp2_with fail
  refine (few_any k s nn op _ _ _ _ ns a b c _ hcnt (HV.out.keep (keep_up (below_alloc' _ _) (Nat.le_refl _)))).mono ?_
  rintro e w2 ⟨v2, rfl, hr2, hb2⟩
  have HB2 := Lib.hid (show Below (w.heap.size + 1) (w.alloc (exBox k s nn op (.slice an ns.length cn) (.slice aa a.len ca) (.slice ab b.len cb) (.slice ac c.len cc))) w2 from hb2.mono (by simp))
  have HB2o := Lib.hid (below_old HB2.out)
  clear hb2
  have HK := Lib.hid (show ∀ W, Below (w.heap.size + 1) (w.alloc (exBox k s nn op (.slice an ns.length cn) (.slice aa a.len ca) (.slice ab b.len cb) (.slice ac c.len cc))) W → ExV (Old W.heap.size) W (.slice an ns.length cn) (.slice aa a.len ca) (.slice ab b.len cb) (.slice ac c.len cc) ns a b c from fun W h => HV.out.keep (keep_up (below_old h) (Nat.le_refl _)))
  have HSz := Lib.hid (show ∀ W, Below (w.heap.size + 1) (w.alloc (exBox k s nn op (.slice an ns.length cn) (.slice aa a.len ca) (.slice ab b.len cb) (.slice ac c.len cc))) W → w.heap.size + 1 ≤ W.heap.size from fun W h => by have := h.size; simp at this; omega)
  cases v2 with
  | false =>
    clear hr2
    go_wp2_with fail
    refine (HA _).mono ?_
    rintro e w9 ⟨rfl, hb9⟩
    have HB9 := Lib.hid (blwS HB2o.out hb9 HB2o.out.size)
    clear hb9
    go_wp2_with fail
    go_ret
    exact ⟨rfl, HB9.out⟩
  | true =>
    have HR := Lib.hid (hr2 rfl)
    clear hr2
    obtain ⟨b0, b1, b2, b3, b4, b5, b6, b7⟩ := exBox_cell (Nat.lt_succ_self _) HB2.out
    go_wp2_with fail
    have hcon := HU k s nn op _ _ _ _ ns a b c x _ hfit hx HR.out (HK.out _ HB2.out)
    rw [HUe.out] at hcon
    refine hcon.mono ?_
    clear hcon b0 b1 b2 b3 b4 b5 b6 b7
    rintro e w3 ⟨rfl, hb3⟩
    have HB3 := Lib.hid (blwS HB2.out hb3 (HSz.out _ HB2.out))
    clear hb3
    obtain ⟨b0, b1, b2, b3, b4, b5, b6, b7⟩ := exBox_cell (Nat.lt_succ_self _) HB3.out
    go_wp2_with fail
    have hcon := ruses_any _ k s nn op _ _ _ _ ns a b c x _ (Nat.lt_succ_self _) (by omega) (HK.out _ HB3.out)
    rw [HUe.out] at hcon
    refine hcon.mono ?_
    clear hcon b0 b1 b2 b3 b4 b5 b6 b7
    rintro e w4 ⟨rfl, hb4⟩
    have HB4 := Lib.hid (blwS HB3.out hb4 (HSz.out _ HB3.out))
    clear hb4
    obtain ⟨b0, b1, b2, b3, b4, b5, b6, b7⟩ := exBox_cell (Nat.lt_succ_self _) HB4.out
    have HC := Lib.hid (show ∀ w', Below (w.heap.size + 1) (w.alloc (exBox k s nn op (.slice an ns.length cn) (.slice aa a.len ca) (.slice ab b.len cb) (.slice ac c.len cc))) w' → w'.cell? ⟨w.heap.size, 0, none⟩ = some (.int .i64 k) ∧ w'.cell? ⟨w.heap.size, 1, none⟩ = some (.string (bt s)) ∧ w'.cell? ⟨w.heap.size, 2, none⟩ = some (.int .i64 nn) ∧ w'.cell? ⟨w.heap.size, 3, none⟩ = some (.int .i64 op) ∧ w'.cell? ⟨w.heap.size, 4, none⟩ = some (.slice an ns.length cn) ∧ w'.cell? ⟨w.heap.size, 5, none⟩ = some (.slice aa a.len ca) ∧ w'.cell? ⟨w.heap.size, 6, none⟩ = some (.slice ab b.len cb) ∧ w'.cell? ⟨w.heap.size, 7, none⟩ = some (.slice ac c.len cc) from fun w' h => exBox_cell (Nat.lt_succ_self _) h)
    have e1 : ((m : Int) == (m : Int)) = true := by simp
    have e2 : (q == q) = true := by simp
    have e3 : (Z == Z) = true := by simp
    go_wp2_with fail
    go_region_held3 (fun w' => w'.cell? ⟨w.heap.size, 0, none⟩ = some (.int .i64 k) ∧ w'.cell? ⟨w.heap.size, 1, none⟩ = some (.string (bt s)) ∧ w'.cell? ⟨w.heap.size, 2, none⟩ = some (.int .i64 nn) ∧ w'.cell? ⟨w.heap.size, 3, none⟩ = some (.int .i64 op) ∧ w'.cell? ⟨w.heap.size, 4, none⟩ = some (.slice an ns.length cn) ∧ w'.cell? ⟨w.heap.size, 5, none⟩ = some (.slice aa a.len ca) ∧ w'.cell? ⟨w.heap.size, 6, none⟩ = some (.slice ab b.len cb) ∧ w'.cell? ⟨w.heap.size, 7, none⟩ = some (.slice ac c.len cc))
      (first
        | exact HC.out _ HB7.out
        | exact HC.out _ HB6.out
        | exact HC.out _ HB5.out
        | with_reducible exact HC.out _ HB4.out.drew
        | (go_keep; done))
      (first
        | (go_at_call 9; have hcon := HO k s nn op _ _ _ _ ns a b c x _ hfit hx HR.out (HK.out _ HB4.out.drew); rw [HUe.out] at hcon; dsimp only at hcon; rw [HZ.out] at hcon; refine hcon.mono ?_; clear hcon; rintro e w5 ⟨rfl, hb5⟩; have HB5 := Lib.hid (blwS HB4.out.drew hb5 (HSz.out _ HB4.out.drew)); clear hb5)
        | (go_at_call 10; have hcon := ronce_any k s nn op _ _ _ _ ns a b c x _ (by omega) (HK.out _ HB5.out); rw [HUe.out] at hcon; dsimp only at hcon; rw [HZ.out] at hcon; refine hcon.mono ?_; clear hcon; rintro e w6 ⟨rfl, hb6⟩; have HB6 := Lib.hid (blwS HB5.out hb6 (HSz.out _ HB5.out)); clear hb6)
        | (go_at_call 6; refine (HA _).mono ?_; rintro e w7 ⟨rfl, hb7⟩; have HB7 := Lib.hid (blwS HB6.out hb7 (HSz.out _ HB6.out)); clear hb7))
    all_goals go_wp2_with fail
    all_goals go_ret
    all_goals exact ⟨rfl, below_old HB7.out⟩
end Go.Proofs.Ytnbbbfjjknkioaa
