/- The contract of the reference's shape, for expressions of kind 6. No condition but a bound on how many expressions there are. -/
import Derived.Test.YtfcogjlojfcfkaaGreatMC
namespace Go.Proofs.YtfcogjlojfcfkaaGreat
open Go.RowKit Ex0
attribute [local go_sem] bt_size bt_list bt_toList
set_option maxHeartbeats 4000000 in
set_option maxRecDepth 100000 in
theorem shape_6 (k : Int) (hk : k = 6) (n : Nat) (ih : ShapeC n) (s : List UInt8) (nn op : Int) (vn va vb vc : Value) (ns : List (List UInt8)) (a b c : Fx) (w : World) (hn : (parts a b c).count < n + 1) (hb : (parts a b c).count ≤ 1048576)
    (hv : ExV (Old w.heap.size) w vn va vb vc ns a b c) : Calls Tryz.prog 21 #[exV k s nn op vn va vb vc] w fun e w' => e = .returned (.bool (shapeB k s nn op ns a b c)) ∧ Below w.heap.size w w' := by
  obtain ⟨an, cn, rfl⟩ := hv.ns.slice
  obtain ⟨aa, ca, rfl⟩ := hv.a.slice
  obtain ⟨ab, cb, rfl⟩ := hv.b.slice
  obtain ⟨ac, cc, rfl⟩ := hv.c.slice
  have HV := Lib.hid hv
  clear hv
  unfold exV
  have k1 : (k == 1) = false := by simp [hk]
  have k2 : (k == 2) = false := by simp [hk]
  have k3 : (k == 3) = false := by simp [hk]
  have k4 : (k == 4) = false := by simp [hk]
  have k5 : (k == 5) = false := by simp [hk]
  have k6 : (k == 6) = true := by simp [hk]
  have k7 : (k == 7) = false := by simp [hk]
  have k8 : (k == 8) = false := by simp [hk]
  have m2 : (k != 2) = true := by simp [hk]
  have m8 : (k != 8) = true := by simp [hk]
  have m3 : (k != 3) = true := by simp [hk]
  have m5 : (k != 5) = true := by simp [hk]
  have m6 : (k != 6) = false := by simp [hk]
  have l1 : decide (k < 1) = false := by simp [hk]
  have l8 : decide (8 < k) = false := by simp [hk]
  clear hk
  by_cases hnn : nn = 0
  rotate_left
  · have f1 : (nn != 0) = true := by simpa using hnn
    have HT := Lib.hid (show shapeB k s nn op ns a b c = false by simp [shapeB, ownB, bad1, bad2, nameB, subsB, oneB, k1, k2, k3, k4, k5, k6, k7, k8, m2, m3, m5, m6, m8, l1, l8, hnn])
    clear hnn
    go_enter Tryz.func21, Tryz.ntmps21
    simp only [List.append]
    go_wp2_with fail
    go_ret
    exact ⟨by rw [HT.out]; rfl, below_alloc' _ _⟩
  have f1 : (nn != 0) = false := by simpa using hnn
  by_cases hop : op = 0
  rotate_left
  · have f2 : (op != 0) = true := by simpa using hop
    have HT := Lib.hid (show shapeB k s nn op ns a b c = false by simp [shapeB, ownB, bad1, bad2, nameB, subsB, oneB, k1, k2, k3, k4, k5, k6, k7, k8, m2, m3, m5, m6, m8, l1, l8, hop, hnn])
    clear hop hnn
    go_enter Tryz.func21, Tryz.ntmps21
    simp only [List.append]
    go_wp2_with fail
    go_ret
    exact ⟨by rw [HT.out]; rfl, below_alloc' _ _⟩
  have f2 : (op != 0) = false := by simpa using hop
  by_cases hn3 : 0 < ns.length
  · have fn3 : decide ((0 : Int) < (ns.length : Int)) = true := decide_eq_true (by omega)
    have gn3 : decide (0 < ns.length) = true := decide_eq_true hn3
    have q3 : ns ≠ [] := fun e => by rw [e] at hn3; simp at hn3
    have HT := Lib.hid (show shapeB k s nn op ns a b c = false by simp [shapeB, ownB, bad1, bad2, nameB, subsB, oneB, k1, k2, k3, k4, k5, k6, k7, k8, m2, m3, m5, m6, m8, l1, l8, hnn, hop, q3])
    clear hnn hop q3
    go_enter Tryz.func21, Tryz.ntmps21
    simp only [List.append]
    go_wp2_with fail
    go_ret
    exact ⟨by rw [HT.out]; rfl, below_alloc' _ _⟩
  have fn3 : decide ((0 : Int) < (ns.length : Int)) = false := decide_eq_false (by omega)
  have gn3 : decide (0 < ns.length) = false := decide_eq_false hn3
  have q3 : ns = [] := List.eq_nil_of_length_eq_zero (by omega)
  by_cases hb5 : 0 < b.len
  · have fb5 : decide ((0 : Int) < (b.len : Int)) = true := decide_eq_true (by omega)
    have gb5 : decide (0 < b.len) = true := decide_eq_true hb5
    have HT := Lib.hid (show shapeB k s nn op ns a b c = false by simp [shapeB, ownB, bad1, bad2, nameB, subsB, oneB, k1, k2, k3, k4, k5, k6, k7, k8, m2, m3, m5, m6, m8, l1, l8, hnn, hop, q3, hb5])
    clear hnn hop q3
    go_enter Tryz.func21, Tryz.ntmps21
    simp only [List.append]
    go_wp2_with fail
    go_ret
    exact ⟨by rw [HT.out]; rfl, below_alloc' _ _⟩
  have fb5 : decide ((0 : Int) < (b.len : Int)) = false := decide_eq_false (by omega)
  have gb5 : decide (0 < b.len) = false := decide_eq_false hb5
  by_cases hl : a.len = 1
  rotate_left
  · have fl : ((a.len : Int) != 1) = true := by simp; omega
    have HT := Lib.hid (show shapeB k s nn op ns a b c = false by simp [shapeB, ownB, bad1, bad2, nameB, subsB, oneB, k1, k2, k3, k4, k5, k6, k7, k8, m2, m3, m5, m6, m8, l1, l8, hnn, hop, q3, hb5, hl])
    clear hnn hop q3 hl
    go_enter Tryz.func21, Tryz.ntmps21
    simp only [List.append]
    go_wp2_with fail
    go_ret
    exact ⟨by rw [HT.out]; rfl, below_alloc' _ _⟩
  have fl : ((a.len : Int) != 1) = false := by simp; omega
  have HT := Lib.hid (show shapeB k s nn op ns a b c = (altsOk c && Fxshape (parts a b c).bare) by simp [shapeB, ownB, bad1, bad2, nameB, subsB, oneB, k1, k2, k3, k4, k5, k6, k7, k8, m2, m3, m5, m6, m8, l1, l8, hnn, hop, q3, hb5, hl])
  clear hnn hop q3 hl
  go_enter Tryz.func21, Tryz.ntmps21
  simp only [List.append]
  go_wp2_with fail
  go_loopw [6] (fun i wr => ∃ f1 f2 : Fx, c = f1.app f2 ∧ i = .int .i64 f1.len ∧ altsOk f1 = true ∧ Below (w.heap.size + 1) (w.alloc (exBox k s nn op (.slice an ns.length cn) (.slice aa a.len ca) (.slice ab b.len cb) (.slice ac c.len cc))) wr) (fun i _ => c.len - (intOf i).toNat)
  case atStart => exact ⟨.nil, c, rfl, rfl, rfl, Below.refl _ _⟩
  case round =>
    obtain ⟨f1, f2, hf, rfl, hw1, hbel⟩ := hrel
    have HW := hbel.size
    simp only [World.size_alloc] at HW
    obtain ⟨b0, b1, b2, b3, b4, b5, b6, b7⟩ := exBox_cell (Nat.lt_succ_self _) hbel
    have HB := Lib.hid hbel
    have HB2 := Lib.hid (below_old hbel)
    have HF := Lib.hid hf
    have HL := Lib.hid (congrArg Fx.len hf)
    have HW1 := Lib.hid hw1
    have hcl : c.len ≤ 1048576 := by have := (parts a b c).len_le; rw [parts_len] at this; omega
    clear hbel hf hw1
    by_cases hlt : f1.len < c.len
    · obtain ⟨p1, k1, s1, n1, op1, ns1, x, y, z, r1, rfl⟩ := fx_cons_of HF.out hlt
      obtain ⟨bb, oo, xn, xa, xb, xc, rfl, hbb, hlc, hcm, hlt1, hpre, c0, c1, c2, c3, c4, c5, c6, c7, hx⟩ := fx_at (HV.out.c.keep (keep_below HB2.out fun _ h => h)) HF.out
      obtain ⟨yn, qn, rfl⟩ := hx.ns.slice
      obtain ⟨ya, qa, rfl⟩ := hx.a.slice
      obtain ⟨yb, qb, rfl⟩ := hx.b.slice
      obtain ⟨yc, qc, rfl⟩ := hx.c.slice
      have hbb' : bb < wr.heap.size := Nat.lt_of_lt_of_le hbb HB2.out.size
      clear hx hbb
      cases p1 with
      | no => cases hpre
      | bind _ => cases hpre.1
      | alt ka sa na nsa =>
        obtain ⟨_, p0, p1, p2, vv, p3, hnv⟩ := hpre
        obtain ⟨zn, zq, rfl⟩ := hnv.slice
        clear hnv
        simp only [Nat.reduceAdd] at p0 p1 p2 p3 c0
        replace c1 : wr.cell? ⟨bb, oo + f1.len * 12 + 5, none⟩ = _ := c1
        replace c2 : wr.cell? ⟨bb, oo + f1.len * 12 + 6, none⟩ = _ := c2
        replace c3 : wr.cell? ⟨bb, oo + f1.len * 12 + 7, none⟩ = _ := c3
        replace c4 : wr.cell? ⟨bb, oo + f1.len * 12 + 8, none⟩ = _ := c4
        replace c5 : wr.cell? ⟨bb, oo + f1.len * 12 + 9, none⟩ = _ := c5
        replace c6 : wr.cell? ⟨bb, oo + f1.len * 12 + 10, none⟩ = _ := c6
        replace c7 : wr.cell? ⟨bb, oo + f1.len * 12 + 11, none⟩ = _ := c7
        have badA : altOk (.alt ka sa na nsa) = false → shapeB k s nn op ns a b c = false := fun h => by
          rw [HT.out, HF.out, alts_app]
          simp only [altsOk, h, Bool.false_and, Bool.and_false]
        have HBad := Lib.hid badA
        have HGood := Lib.hid (show altOk (.alt ka sa na nsa) = true → altsOk (f1.app (.cons (.alt ka sa na nsa) k1 s1 n1 op1 ns1 x y z .nil)) = true from fun h => by
          rw [alts_app, HW1.out]
          simp only [altsOk, h, Bool.and_true])
        clear badA
        by_cases hka : ka < 1
        · have q1 : decide (ka < 1) = true := decide_eq_true hka
          have HQ := Lib.hid (HBad.out (by simp [altOk, hka]))
          clear hka
          go_wp2_with fail
          go_ret
          exact ⟨by rw [HQ.out]; rfl, below_old (HB.out.alloc HW _)⟩
        have q1 : decide (ka < 1) = false := decide_eq_false hka
        by_cases hkb : 3 < ka
        · have q2 : decide (3 < ka) = true := decide_eq_true hkb
          have HQ := Lib.hid (HBad.out (by simp [altOk, hkb]))
          clear hka hkb
          go_wp2_with fail
          go_ret
          exact ⟨by rw [HQ.out]; rfl, below_old (HB.out.alloc HW _)⟩
        have q2 : decide (3 < ka) = false := decide_eq_false hkb
        by_cases hk1 : ka = 1
        · have q3 : (ka != 1) = false := by simp [hk1]
          have q9 : (ka != 2) = true := by simp [hk1]
          by_cases hna : na = 0
          rotate_left
          · have q5 : (na != 0) = true := by simpa using hna
            have HQ := Lib.hid (HBad.out (by simp [altOk, hk1, hna]))
            clear hk1 hka hkb hna
            go_wp2_with fail
            go_ret
            exact ⟨by rw [HQ.out]; rfl, below_old (HB.out.alloc HW _)⟩
          have q5 : (na != 0) = false := by simpa using hna
          have HQ := Lib.hid (HGood.out (by simp [altOk, hk1, hna]))
          clear hk1 hka hkb hna
          go_wp2_with fail
          go_roundw
          case rel => exact ⟨f1.app (.cons (.alt ka _ na nsa) k1 s1 n1 op1 ns1 x y z .nil), r1, by rw [Fx.app_app]; exact HF.out, by rw [Fx.len_app]; simp only [Fx.len]; go_num, HQ.out, HB.out.alloc HW _⟩
          case measure => simp [intOf]; omega
        have q3 : (ka != 1) = true := by simpa using hk1
        by_cases hk2 : ka = 2
        · have q9 : (ka != 2) = false := by simp [hk2]
          by_cases hsa : sa = []
          rotate_left
          · have q4 : sa.isEmpty = false := by simpa using hsa
            have HQ := Lib.hid (HBad.out (by simp [altOk, hk2, hsa]))
            clear hk1 hk2 hka hkb
            go_wp2_with fail
            go_ret
            exact ⟨by rw [HQ.out]; rfl, below_old (HB.out.alloc HW _)⟩
          subst hsa
          by_cases hnl : 0 < nsa.length
          · have q6 : decide ((0 : Int) < (nsa.length : Int)) = true := decide_eq_true (by omega)
            have q7 : decide (0 < nsa.length) = true := decide_eq_true hnl
            have q8 : nsa ≠ [] := fun e => by rw [e] at hnl; simp at hnl
            have HQ := Lib.hid (HBad.out (by simp [altOk, hk2, q8]))
            clear hk1 hk2 hka hkb q8
            go_wp2_with fail
            go_ret
            exact ⟨by rw [HQ.out]; rfl, below_old (HB.out.alloc HW _)⟩
          have q6 : decide ((0 : Int) < (nsa.length : Int)) = false := decide_eq_false (by omega)
          have q7 : decide (0 < nsa.length) = false := decide_eq_false hnl
          have q8 : nsa = [] := List.eq_nil_of_length_eq_zero (by omega)
          have HQ := Lib.hid (HGood.out (by simp [altOk, hk2, q8]))
          clear hk1 hk2 hka hkb q8
          go_wp2_with fail
          go_roundw
          case rel => exact ⟨f1.app (.cons (.alt ka _ na nsa) k1 s1 n1 op1 ns1 x y z .nil), r1, by rw [Fx.app_app]; exact HF.out, by rw [Fx.len_app]; simp only [Fx.len]; go_num, HQ.out, HB.out.alloc HW _⟩
          case measure => simp [intOf]; omega
        have q9 : (ka != 2) = true := by simpa using hk2
        by_cases hsa : sa = []
        rotate_left
        · have q4 : sa.isEmpty = false := by simpa using hsa
          have HQ := Lib.hid (HBad.out (by simp [altOk, hk1, hk2, hka, hkb, hsa]))
          clear hk1 hk2 hka hkb
          go_wp2_with fail
          go_ret
          exact ⟨by rw [HQ.out]; rfl, below_old (HB.out.alloc HW _)⟩
        subst hsa
        by_cases hnl : 0 < nsa.length
        · have q6 : decide ((0 : Int) < (nsa.length : Int)) = true := decide_eq_true (by omega)
          have q7 : decide (0 < nsa.length) = true := decide_eq_true hnl
          have q8 : nsa ≠ [] := fun e => by rw [e] at hnl; simp at hnl
          have HQ := Lib.hid (HBad.out (by simp [altOk, hk1, hk2, hka, hkb, q8]))
          clear hk1 hk2 hka hkb q8
          go_wp2_with fail
          go_ret
          exact ⟨by rw [HQ.out]; rfl, below_old (HB.out.alloc HW _)⟩
        have q6 : decide ((0 : Int) < (nsa.length : Int)) = false := decide_eq_false (by omega)
        have q7 : decide (0 < nsa.length) = false := decide_eq_false hnl
        have q8 : nsa = [] := List.eq_nil_of_length_eq_zero (by omega)
        by_cases hna : na = 0
        rotate_left
        · have q5 : (na != 0) = true := by simpa using hna
          have HQ := Lib.hid (HBad.out (by simp [altOk, hk1, hk2, hka, hkb, q8, hna]))
          clear hk1 hk2 hka hkb q8 hna
          go_wp2_with fail
          go_ret
          exact ⟨by rw [HQ.out]; rfl, below_old (HB.out.alloc HW _)⟩
        have q5 : (na != 0) = false := by simpa using hna
        have HQ := Lib.hid (HGood.out (by simp [altOk, hk1, hk2, hka, hkb, q8, hna]))
        clear hk1 hk2 hka hkb q8 hna
        go_wp2_with fail
        go_roundw
        case rel => exact ⟨f1.app (.cons (.alt ka _ na nsa) k1 s1 n1 op1 ns1 x y z .nil), r1, by rw [Fx.app_app]; exact HF.out, by rw [Fx.len_app]; simp only [Fx.len]; go_num, HQ.out, HB.out.alloc HW _⟩
        case measure => simp [intOf]; omega
    · have e1 := fx_nil_of HF.out hlt
      have hao := Lib.hid (show altsOk c = true by rw [HF.out, e1, Fx.app_nil]; exact HW1.out)
      clear e1
      have hlt' : decide ((f1.len : Int) < c.len) = false := decide_eq_false (by omega)
      go_wp2_with ((go_at_call 44; refine (parts_any k s nn op _ _ _ _ ns a b c _ hb (HV.out.keep (keep_up HB2.out (Nat.le_refl _)))).mono ?_; rintro e w3 ⟨v3, rfl, hv3, hb3⟩))
      obtain ⟨F, hF⟩ : ∃ F, F = (parts a b c).bare := ⟨_, rfl⟩
      rw [← hF] at hv3 HT
      have hFc : F.count = (parts a b c).count := by rw [hF, Fx.count_bare]
      have hFl := F.len_le
      obtain ⟨a3, c3, rfl⟩ := hv3.slice
      have HV3 := Lib.hid hv3
      have HB3 := Lib.hid (show Below w.heap.size w w3 from blwS (HB2.out) hb3 (Below.size (HB2.out)))
      have HFc := Lib.hid hFc
      clear hv3 hb3 hF
      have hfl : F.len ≤ 1048576 := by omega
      clear hFc hFl
      go_loopw [9] (fun i wr => ∃ f1 f2 : Fx, F = f1.app f2 ∧ i = .int .i64 f1.len ∧ Fxshape f1 = true ∧ Below w3.heap.size w3 wr) (fun i _ => F.len - (intOf i).toNat)
      case atStart => exact ⟨.nil, F, rfl, rfl, rfl, Below.refl _ _⟩
      case round =>
        obtain ⟨f1, f2, hf, rfl, hw1, hbel⟩ := hrel
        have HBr := Lib.hid hbel
        have HF := Lib.hid hf
        have HL := Lib.hid (congrArg Fx.len hf)
        have HW1 := Lib.hid hw1
        clear hbel hf hw1
        by_cases hlt : f1.len < F.len
        · obtain ⟨p1, k1, s1, n1, op1, ns1, x, y, z, r1, rfl⟩ := fx_cons_of HF.out hlt
          obtain ⟨bb, oo, xn, xa, xb, xc, rfl, hbb, hlc, hcm, hlt1, _, c0, c1, c2, c3', c4, c5, c6, c7, hx⟩ := fx_at (HV3.out.keep (keep_up HBr.out (Nat.le_refl _))) HF.out
          obtain ⟨yn, qn, rfl⟩ := hx.ns.slice
          obtain ⟨ya, qa, rfl⟩ := hx.a.slice
          obtain ⟨yb, qb, rfl⟩ := hx.b.slice
          obtain ⟨yc, qc, rfl⟩ := hx.c.slice
          have HX := Lib.hid hx
          have hbb' : bb < wr.heap.size := hbb
          clear hx hbb
          simp only [Nat.add_zero, Nat.zero_add] at c0 c1 c2 c3' c4 c5 c6 c7
          have hcx : (parts x y z).count < n ∧ (parts x y z).count ≤ 1048576 := by
            have := congrArg Fx.count HF.out
            rw [Fx.count_app, HFc.out] at this
            simp only [Fx.count] at this
            rw [parts_count x y z]; omega
          obtain ⟨hcx1, hcx2⟩ := hcx
          go_wp2_with fail
          refine (ih k1 s1 n1 op1 _ _ _ _ ns1 x y z _ hcx1 hcx2 HX.out).mono ?_
          rintro e w4 ⟨rfl, hb4⟩
          have HB4 := Lib.hid (blwS HBr.out hb4 HBr.out.size)
          clear hb4
          cases hr : shapeB k1 s1 n1 op1 ns1 x y z with
          | false =>
            have HR := Lib.hid hr
            clear hr
            go_wp2_with fail
            go_ret
            refine ⟨?_, blwS HB3.out HB4.out HB3.out.size⟩
            rw [HT.out, HF.out, shape_app, shape_cons, HR.out]
            simp
          | true =>
            have HR := Lib.hid hr
            clear hr
            go_wp2_with fail
            go_roundw
            case rel => exact ⟨f1.app (.cons p1 k1 s1 n1 op1 ns1 x y z .nil), r1, by rw [Fx.app_app]; exact HF.out, by rw [Fx.len_app]; simp only [Fx.len]; go_num, by rw [shape_app, shape_cons, HR.out, HW1.out]; rfl, HB4.out⟩
            case measure => simp [intOf]; omega
        · have e1 := fx_nil_of HF.out hlt
          go_wp2_with fail
          go_ret
          refine ⟨?_, blwS HB3.out HBr.out HB3.out.size⟩
          rw [HT.out, HF.out, e1, Fx.app_nil, HW1.out, hao.out]
          rfl
end Go.Proofs.YtfcogjlojfcfkaaGreat
