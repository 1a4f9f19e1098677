/- The contract of the reference's shape, for expressions of kind 7. No condition but a bound on how many expressions there are. -/
import Derived.Test.YtfcogjlojfcfkaaGreatMC
namespace Go.Proofs.YtfcogjlojfcfkaaGreat
open Go.RowKit Ex0
attribute [local go_sem] bt_size bt_list bt_toList
set_option maxHeartbeats 4000000 in
set_option maxRecDepth 100000 in
theorem shape_7 (k : Int) (hk : k = 7) (n : Nat) (ih : ShapeC n) (s : List UInt8) (nn op : Int) (vn va vb vc : Value) (ns : List (List UInt8)) (a b c : Fx) (w : World) (hn : (parts a b c).count < n + 1) (hb : (parts a b c).count ≤ 1048576)
    (hv : ExV (Old w.heap.size) w vn va vb vc ns a b c) : Calls Tryz.prog 21 #[exV k s nn op vn va vb vc] w fun e w' => e = .returned (.bool (shapeB k s nn op ns a b c)) ∧ Below w.heap.size w w' := by
  obtain ⟨an, cn, rfl⟩ := hv.ns.slice
  obtain ⟨aa, ca, rfl⟩ := hv.a.slice
  obtain ⟨ab, cb, rfl⟩ := hv.b.slice
  obtain ⟨ac, cc, rfl⟩ := hv.c.slice
  have HV := Lib.hid hv
  clear hv
  unfold exV
  have k1 : (k == 1) = false := by simp [hk]
  have k2 : (k == 2) = false := by simp [hk]
  have k3 : (k == 3) = false := by simp [hk]
  have k4 : (k == 4) = false := by simp [hk]
  have k5 : (k == 5) = false := by simp [hk]
  have k6 : (k == 6) = false := by simp [hk]
  have k7 : (k == 7) = true := by simp [hk]
  have k8 : (k == 8) = false := by simp [hk]
  have m2 : (k != 2) = true := by simp [hk]
  have m8 : (k != 8) = true := by simp [hk]
  have m3 : (k != 3) = true := by simp [hk]
  have m5 : (k != 5) = true := by simp [hk]
  have m6 : (k != 6) = true := by simp [hk]
  have l1 : decide (k < 1) = false := by simp [hk]
  have l8 : decide (8 < k) = false := by simp [hk]
  clear hk
  by_cases hnn : nn = 0
  rotate_left
  · have f1 : (nn != 0) = true := by simpa using hnn
    have HT := Lib.hid (show shapeB k s nn op ns a b c = false by simp [shapeB, ownB, bad1, bad2, nameB, subsB, oneB, k1, k2, k3, k4, k5, k6, k7, k8, m2, m3, m5, m6, m8, l1, l8, hnn])
    clear hnn
    go_enter Tryz.func21, Tryz.ntmps21
    simp only [List.append]
    go_wp2_with fail
    go_ret
    exact ⟨by rw [HT.out]; rfl, below_alloc' _ _⟩
  have f1 : (nn != 0) = false := by simpa using hnn
  by_cases hop : op = 0
  rotate_left
  · have f2 : (op != 0) = true := by simpa using hop
    have HT := Lib.hid (show shapeB k s nn op ns a b c = false by simp [shapeB, ownB, bad1, bad2, nameB, subsB, oneB, k1, k2, k3, k4, k5, k6, k7, k8, m2, m3, m5, m6, m8, l1, l8, hop, hnn])
    clear hop hnn
    go_enter Tryz.func21, Tryz.ntmps21
    simp only [List.append]
    go_wp2_with fail
    go_ret
    exact ⟨by rw [HT.out]; rfl, below_alloc' _ _⟩
  have f2 : (op != 0) = false := by simpa using hop
  by_cases hn3 : 0 < ns.length
  · have fn3 : decide ((0 : Int) < (ns.length : Int)) = true := decide_eq_true (by omega)
    have gn3 : decide (0 < ns.length) = true := decide_eq_true hn3
    have q3 : ns ≠ [] := fun e => by rw [e] at hn3; simp at hn3
    have HT := Lib.hid (show shapeB k s nn op ns a b c = false by simp [shapeB, ownB, bad1, bad2, nameB, subsB, oneB, k1, k2, k3, k4, k5, k6, k7, k8, m2, m3, m5, m6, m8, l1, l8, hnn, hop, q3])
    clear hnn hop q3
    go_enter Tryz.func21, Tryz.ntmps21
    simp only [List.append]
    go_wp2_with fail
    go_ret
    exact ⟨by rw [HT.out]; rfl, below_alloc' _ _⟩
  have fn3 : decide ((0 : Int) < (ns.length : Int)) = false := decide_eq_false (by omega)
  have gn3 : decide (0 < ns.length) = false := decide_eq_false hn3
  have q3 : ns = [] := List.eq_nil_of_length_eq_zero (by omega)
  by_cases hb5 : 0 < b.len
  · have fb5 : decide ((0 : Int) < (b.len : Int)) = true := decide_eq_true (by omega)
    have gb5 : decide (0 < b.len) = true := decide_eq_true hb5
    have HT := Lib.hid (show shapeB k s nn op ns a b c = false by simp [shapeB, ownB, bad1, bad2, nameB, subsB, oneB, k1, k2, k3, k4, k5, k6, k7, k8, m2, m3, m5, m6, m8, l1, l8, hnn, hop, q3, hb5])
    clear hnn hop q3
    go_enter Tryz.func21, Tryz.ntmps21
    simp only [List.append]
    go_wp2_with fail
    go_ret
    exact ⟨by rw [HT.out]; rfl, below_alloc' _ _⟩
  have fb5 : decide ((0 : Int) < (b.len : Int)) = false := decide_eq_false (by omega)
  have gb5 : decide (0 < b.len) = false := decide_eq_false hb5
  by_cases hc6 : 0 < c.len
  · have fc6 : decide ((0 : Int) < (c.len : Int)) = true := decide_eq_true (by omega)
    have gc6 : decide (0 < c.len) = true := decide_eq_true hc6
    have HT := Lib.hid (show shapeB k s nn op ns a b c = false by simp [shapeB, ownB, bad1, bad2, nameB, subsB, oneB, k1, k2, k3, k4, k5, k6, k7, k8, m2, m3, m5, m6, m8, l1, l8, hnn, hop, q3, hb5, hc6])
    clear hnn hop q3
    go_enter Tryz.func21, Tryz.ntmps21
    simp only [List.append]
    go_wp2_with fail
    go_ret
    exact ⟨by rw [HT.out]; rfl, below_alloc' _ _⟩
  have fc6 : decide ((0 : Int) < (c.len : Int)) = false := decide_eq_false (by omega)
  have gc6 : decide (0 < c.len) = false := decide_eq_false hc6
  have HT := Lib.hid (show shapeB k s nn op ns a b c = (altsOk c && Fxshape (parts a b c).bare) by simp [shapeB, ownB, bad1, bad2, nameB, subsB, oneB, k1, k2, k3, k4, k5, k6, k7, k8, m2, m3, m5, m6, m8, l1, l8, hnn, hop, q3, hb5, hc6])
  have hc0 := Lib.hid (show c = .nil from Fx.len_zero (by omega))
  clear hnn hop q3
  go_enter Tryz.func21, Tryz.ntmps21
  simp only [List.append]
  go_wp2_with fail
  refine wp_loop_rounds 1 ?_
  rw [rounds_succ]
  go_wp2_with ((go_at_call 44; refine (parts_any k _ _ _ _ _ _ _ ns a b c _ hb (HV.out.keep (keep_up (below_alloc' _ _) (Nat.le_refl _)))).mono ?_; rintro e w3 ⟨v3, rfl, hv3, hb3⟩))
  obtain ⟨F, hF⟩ : ∃ F, F = (parts a b c).bare := ⟨_, rfl⟩
  rw [← hF] at hv3 HT
  have hFc : F.count = (parts a b c).count := by rw [hF, Fx.count_bare]
  have hFl := F.len_le
  obtain ⟨a3, c3, rfl⟩ := hv3.slice
  have HV3 := Lib.hid hv3
  have HB3 := Lib.hid (show Below w.heap.size w w3 from blwS (below_alloc' _ _) hb3 (Below.size (below_alloc' _ _)))
  have HFc := Lib.hid hFc
  clear hv3 hb3 hF
  have hfl : F.len ≤ 1048576 := by omega
  clear hFc hFl
  go_loopw [9] (fun i wr => ∃ f1 f2 : Fx, F = f1.app f2 ∧ i = .int .i64 f1.len ∧ Fxshape f1 = true ∧ Below w3.heap.size w3 wr) (fun i _ => F.len - (intOf i).toNat)
  case atStart => exact ⟨.nil, F, rfl, rfl, rfl, Below.refl _ _⟩
  case round =>
    obtain ⟨f1, f2, hf, rfl, hw1, hbel⟩ := hrel
    have HBr := Lib.hid hbel
    have HF := Lib.hid hf
    have HL := Lib.hid (congrArg Fx.len hf)
    have HW1 := Lib.hid hw1
    clear hbel hf hw1
    by_cases hlt : f1.len < F.len
    · obtain ⟨p1, k1, s1, n1, op1, ns1, x, y, z, r1, rfl⟩ := fx_cons_of HF.out hlt
      obtain ⟨bb, oo, xn, xa, xb, xc, rfl, hbb, hlc, hcm, hlt1, _, c0, c1, c2, c3', c4, c5, c6, c7, hx⟩ := fx_at (HV3.out.keep (keep_up HBr.out (Nat.le_refl _))) HF.out
      obtain ⟨yn, qn, rfl⟩ := hx.ns.slice
      obtain ⟨ya, qa, rfl⟩ := hx.a.slice
      obtain ⟨yb, qb, rfl⟩ := hx.b.slice
      obtain ⟨yc, qc, rfl⟩ := hx.c.slice
      have HX := Lib.hid hx
      have hbb' : bb < wr.heap.size := hbb
      clear hx hbb
      simp only [Nat.add_zero, Nat.zero_add] at c0 c1 c2 c3' c4 c5 c6 c7
      have hcx : (parts x y z).count < n ∧ (parts x y z).count ≤ 1048576 := by
        have := congrArg Fx.count HF.out
        rw [Fx.count_app, HFc.out] at this
        simp only [Fx.count] at this
        rw [parts_count x y z]; omega
      obtain ⟨hcx1, hcx2⟩ := hcx
      go_wp2_with fail
      refine (ih k1 s1 n1 op1 _ _ _ _ ns1 x y z _ hcx1 hcx2 HX.out).mono ?_
      rintro e w4 ⟨rfl, hb4⟩
      have HB4 := Lib.hid (blwS HBr.out hb4 HBr.out.size)
      clear hb4
      cases hr : shapeB k1 s1 n1 op1 ns1 x y z with
      | false =>
        have HR := Lib.hid hr
        clear hr
        go_wp2_with fail
        go_ret
        refine ⟨?_, blwS HB3.out HB4.out HB3.out.size⟩
        rw [HT.out, HF.out, shape_app, shape_cons, HR.out]
        simp
      | true =>
        have HR := Lib.hid hr
        clear hr
        go_wp2_with fail
        go_roundw
        case rel => exact ⟨f1.app (.cons p1 k1 s1 n1 op1 ns1 x y z .nil), r1, by rw [Fx.app_app]; exact HF.out, by rw [Fx.len_app]; simp only [Fx.len]; go_num, by rw [shape_app, shape_cons, HR.out, HW1.out]; rfl, HB4.out⟩
        case measure => simp [intOf]; omega
    · have e1 := fx_nil_of HF.out hlt
      go_wp2_with fail
      go_ret
      refine ⟨?_, blwS HB3.out HBr.out HB3.out.size⟩
      rw [HT.out, HF.out, e1, Fx.app_nil, HW1.out, (hc0.out ▸ rfl : altsOk c = true)]
      rfl
end Go.Proofs.YtfcogjlojfcfkaaGreat
