/- The contracts of the reference's Uses and Once. A bound on how great the expression is. -/
import Derived.Test.YtnbbbfjjknkioaaRUses1
import Derived.Test.YtnbbbfjjknkioaaRUses2
import Derived.Test.YtnbbbfjjknkioaaRUses3
namespace Go.Proofs.Ytnbbbfjjknkioaa
open Go.RowKit Ex0

theorem ruses_any (n : Nat) : RUsesC n := by
  induction n with
  | zero => intro _ _ _ _ _ _ _ _ _ _ _ _ _ _ h; omega
  | succ n ih =>
    intro k s nn op vn va vb vc ns a b c x w hn hb hv
    cases h1 : (k == 1) with
    | true => exact ruses_var n ih k s nn op vn va vb vc ns a b c x w hn hb hv h1
    | false =>
      cases h3 : (k == 3) with
      | false => exact ruses_other n ih k s nn op vn va vb vc ns a b c x w hn hb hv h1 h3
      | true =>
        by_cases hm : x ∈ ns
        · exact ruses_lam n ih k s nn op vn va vb vc ns a b c x w hn hb hv h1 h3 hm
        · exact ruses_lam2 n ih k s nn op vn va vb vc ns a b c x w hn hb hv h1 h3 hm

set_option maxHeartbeats 1000000 in
theorem ronce_any (k : Int) (s : List UInt8) (nn op : Int) (vn va vb vc : Value) (ns : List (List UInt8)) (a b c : Fx) (x : List UInt8) (w : World) (hb : a.wt + b.wt + c.wt + nsWt ns ≤ 1048576) (hv : ExV (Old w.heap.size) w vn va vb vc ns a b c) :
    Calls Try.prog 10 #[exV k s nn op vn va vb vc, .string (bt x)] w fun e w' => e = .returned (.bool ((((usesE x k s ns a b c).1 : Int) == 1) && !(usesE x k s ns a b c).2)) ∧ Below w.heap.size w w' := by
  obtain ⟨an, cn, rfl⟩ := hv.ns.slice
  obtain ⟨aa, ca, rfl⟩ := hv.a.slice
  obtain ⟨ab, cb, rfl⟩ := hv.b.slice
  obtain ⟨ac, cc, rfl⟩ := hv.c.slice
  have HV := Lib.hid hv
  clear hv
  obtain ⟨⟨m, q⟩, hU⟩ : ∃ U, usesE x k s ns a b c = U := ⟨_, rfl⟩
  rw [hU]
  have HU := Lib.hid hU
  clear hU
  dsimp only
  unfold exV
  go_enter Try.func10, Try.ntmps10
  go_wp2_with fail
  have hcon := ruses_any _ k s nn op _ _ _ _ ns a b c x _ (Nat.lt_succ_self _) hb (HV.out.keep (keep_up (below_alloc' w (exBox k s nn op (.slice an ns.length cn) (.slice aa a.len ca) (.slice ab b.len cb) (.slice ac c.len cc))) (Nat.le_refl _)))
  rw [HU.out] at hcon
  refine hcon.mono ?_
  clear hcon
  rintro e w2 ⟨rfl, hb2⟩
  have HB2 := Lib.hid (below_old (show Below (w.heap.size + 1) (w.alloc (exBox k s nn op (.slice an ns.length cn) (.slice aa a.len ca) (.slice ab b.len cb) (.slice ac c.len cc))) w2 from hb2.mono (by simp)))
  clear hb2
  cases h1 : ((m : Int) == 1)
  all_goals
    cases q
    all_goals
      have H1 := Lib.hid h1
      go_wp2_with fail
      go_ret
      exact ⟨by first | rfl | (rw [H1.out]; rfl) | (simp [H1.out]; done), HB2.out⟩
end Go.Proofs.Ytnbbbfjjknkioaa
