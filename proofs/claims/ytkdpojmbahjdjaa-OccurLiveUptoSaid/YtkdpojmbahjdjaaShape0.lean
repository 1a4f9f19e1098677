/- The contract of the reference's shape, for expressions of kind none. No condition but a bound on how many expressions there are. -/
import Derived.Test.YtkdpojmbahjdjaaShapeD
namespace Go.Proofs.Ytkdpojmbahjdjaa
open Go.RowKit Ex0
attribute [local go_sem] bt_size bt_list bt_toList
set_option maxHeartbeats 4000000 in
set_option maxRecDepth 100000 in
theorem shape_0 (k : Int) (hk : k < 1 ∨ 8 < k) (n : Nat) (s : List UInt8) (nn op : Int) (vn va vb vc : Value) (ns : List (List UInt8)) (a b c : Fx) (w : World) (hn : (parts a b c).count < n + 1) (hb : (parts a b c).count ≤ 1048576)
    (hv : ExV (Old w.heap.size) w vn va vb vc ns a b c) : Calls Try.prog 17 #[exV k s nn op vn va vb vc] w fun e w' => e = .returned (.bool (shapeB k s nn op ns a b c)) ∧ Below w.heap.size w w' := by
  obtain ⟨an, cn, rfl⟩ := hv.ns.slice
  obtain ⟨aa, ca, rfl⟩ := hv.a.slice
  obtain ⟨ab, cb, rfl⟩ := hv.b.slice
  obtain ⟨ac, cc, rfl⟩ := hv.c.slice
  have HV := Lib.hid hv
  clear hv
  unfold exV
  have k1 : (k == 1) = false := by simp; omega
  have k2 : (k == 2) = false := by simp; omega
  have k3 : (k == 3) = false := by simp; omega
  have k4 : (k == 4) = false := by simp; omega
  have k5 : (k == 5) = false := by simp; omega
  have k6 : (k == 6) = false := by simp; omega
  have k7 : (k == 7) = false := by simp; omega
  have k8 : (k == 8) = false := by simp; omega
  have HT := Lib.hid (show shapeB k s nn op ns a b c = false by rcases hk with hk | hk <;> simp [shapeB, ownB, bad1, hk])
  by_cases hk1 : k < 1
  · have l1 : decide (k < 1) = true := decide_eq_true hk1
    clear hk
    go_enter Try.func17, Try.ntmps17
    simp only [List.append]
    go_wp2_with fail
    go_ret
    exact ⟨by rw [HT.out]; rfl, below_alloc' _ _⟩
  · have l1 : decide (k < 1) = false := decide_eq_false hk1
    have l8 : decide (8 < k) = true := decide_eq_true (by omega)
    clear hk
    go_enter Try.func17, Try.ntmps17
    simp only [List.append]
    go_wp2_with fail
    go_ret
    exact ⟨by rw [HT.out]; rfl, below_alloc' _ _⟩
end Go.Proofs.Ytkdpojmbahjdjaa
