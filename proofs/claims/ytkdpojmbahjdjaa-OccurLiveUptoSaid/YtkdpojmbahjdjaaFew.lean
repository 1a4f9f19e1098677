/- The contracts of the reference's Right and of few. No condition but a bound on how many expressions there are. -/
import Derived.Test.YtkdpojmbahjdjaaShape
import Derived.Test.YtkdpojmbahjdjaaBnd
namespace Go.Proofs.Ytkdpojmbahjdjaa
open Go.RowKit Ex0

/-- Is it an expression? -/
def rightB (k : Int) (s : List UInt8) (n op : Int) (ns : List (List UInt8)) (a b c : Fx) : Bool := shapeB k s n op ns a b c && wholeB k op ns a b c

set_option maxHeartbeats 2000000 in
theorem right_any (k : Int) (s : List UInt8) (nn op : Int) (vn va vb vc : Value) (ns : List (List UInt8)) (a b c : Fx) (w : World) (hb : (parts a b c).count ≤ 1048576) (hv : ExV (Old w.heap.size) w vn va vb vc ns a b c) :
    Calls Try.prog 9 #[exV k s nn op vn va vb vc] w fun e w' => e = .returned (.bool (rightB k s nn op ns a b c)) ∧ Below w.heap.size w w' := by
  obtain ⟨an, cn, rfl⟩ := hv.ns.slice
  obtain ⟨aa, ca, rfl⟩ := hv.a.slice
  obtain ⟨ab, cb, rfl⟩ := hv.b.slice
  obtain ⟨ac, cc, rfl⟩ := hv.c.slice
  have HV := Lib.hid hv
  clear hv
  unfold exV
  go_enter Try.func9, Try.ntmps9
  go_wp2_with fail
  refine (shape_any _ k s nn op _ _ _ _ ns a b c _ (Nat.lt_succ_self _) hb (HV.out.keep (keep_up (below_alloc' _ _) (Nat.le_refl _)))).mono ?_
  rintro e w2 ⟨rfl, hb2⟩
  have HB2 := Lib.hid (show Below (w.heap.size + 1) (w.alloc (exBox k s nn op (.slice an ns.length cn) (.slice aa a.len ca) (.slice ab b.len cb) (.slice ac c.len cc))) w2 from hb2.mono (by simp))
  have HB3 := Lib.hid (below_old HB2.out)
  clear hb2
  cases hs : shapeB k s nn op ns a b c with
  | false =>
    have HT := Lib.hid (show rightB k s nn op ns a b c = false by unfold rightB; rw [hs]; rfl)
    clear hs
    go_wp2_with fail
    go_ret
    exact ⟨by rw [HT.out]; rfl, HB3.out⟩
  | true =>
    have HT := Lib.hid (show rightB k s nn op ns a b c = wholeB k op ns a b c by unfold rightB; rw [hs]; rfl)
    clear hs
    obtain ⟨b0, b1, b2, b3, b4, b5, b6, b7⟩ := exBox_cell (Nat.lt_succ_self _) HB2.out
    go_wp2_with fail
    refine (whole_any _ k s nn op _ _ _ _ ns a b c _ (Nat.lt_succ_self _) hb (HV.out.keep (keep_up HB3.out (Nat.le_refl _)))).mono ?_
    rintro e w4 ⟨rfl, hb4⟩
    have HB4 := Lib.hid (blwS HB3.out hb4 HB3.out.size)
    clear hb4
    go_wp2_with fail
    go_ret
    exact ⟨by rw [HT.out]; rfl, HB4.out⟩

def FewPost (r : Bool) (w : World) (e : Ending) (w' : World) : Prop := ∃ v : Bool, e = .returned (.bool v) ∧ (v = true → r = true) ∧ Below w.heap.size w w'
set_option maxHeartbeats 2000000 in
theorem few_any (k : Int) (s : List UInt8) (nn op : Int) (vn va vb vc : Value) (ns : List (List UInt8)) (a b c : Fx) (w : World) (hb : (parts a b c).count ≤ 1048576) (hv : ExV (Old w.heap.size) w vn va vb vc ns a b c) :
    Calls Try.prog 4 #[exV k s nn op vn va vb vc] w (FewPost (rightB k s nn op ns a b c) w) := by
  obtain ⟨an, cn, rfl⟩ := hv.ns.slice
  obtain ⟨aa, ca, rfl⟩ := hv.a.slice
  obtain ⟨ab, cb, rfl⟩ := hv.b.slice
  obtain ⟨ac, cc, rfl⟩ := hv.c.slice
  have HV := Lib.hid hv
  clear hv
  unfold exV
  go_enter Try.func4, Try.ntmps4
  go_wp2_with fail
  refine (bounded_any _ k s nn op _ _ _ _ ns a b c 0 _ (Nat.lt_succ_self _) hb (by decide) (by decide) (HV.out.keep (keep_up (below_alloc' _ _) (Nat.le_refl _)))).mono ?_
  rintro e w2 ⟨m, o, rfl, hm1, hm2, hb2⟩
  have HB2 := Lib.hid (show Below (w.heap.size + 1) (w.alloc (exBox k s nn op (.slice an ns.length cn) (.slice aa a.len ca) (.slice ab b.len cb) (.slice ac c.len cc))) w2 from hb2.mono (by simp))
  have HB3 := Lib.hid (below_old HB2.out)
  clear hb2
  cases o with
  | false =>
    go_wp2_with fail
    go_ret
    exact ⟨false, rfl, (fun h => by cases h), HB3.out⟩
  | true =>
    by_cases hl : (m : Int) < 20000
    · have q : decide ((m : Int) < 20000) = true := decide_eq_true hl
      obtain ⟨b0, b1, b2, b3, b4, b5, b6, b7⟩ := exBox_cell (Nat.lt_succ_self _) HB2.out
      clear hl
      go_wp2_with fail
      refine (right_any k s nn op _ _ _ _ ns a b c _ hb (HV.out.keep (keep_up HB3.out (Nat.le_refl _)))).mono ?_
      rintro e w4 ⟨rfl, hb4⟩
      have HB4 := Lib.hid (blwS HB3.out hb4 HB3.out.size)
      clear hb4
      go_wp2_with fail
      go_ret
      exact ⟨_, rfl, fun h => h, HB4.out⟩
    · have q : decide ((m : Int) < 20000) = false := decide_eq_false hl
      clear hl
      go_wp2_with fail
      go_ret
      exact ⟨false, rfl, (fun h => by cases h), HB3.out⟩
end Go.Proofs.Ytkdpojmbahjdjaa
