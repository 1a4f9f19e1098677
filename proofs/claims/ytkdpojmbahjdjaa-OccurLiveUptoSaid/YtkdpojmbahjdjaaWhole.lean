/- The contract of the reference's Args and whole. No condition but a bound on how many expressions there are. -/
import Derived.Test.YtkdpojmbahjdjaaParts
namespace Go.Proofs.Ytkdpojmbahjdjaa
open Go.RowKit Ex0

/-- How many arguments an operation has. -/
def argsN (op : Int) : Int := if 1 ≤ op ∧ op ≤ 8 then 2 else if op = 10 then 1 else if op = 9 ∨ op = 11 then 0 else -1
theorem args_any (op : Int) (w : World) : Calls Try.prog 25 #[.int .i64 op] w fun e w' => e = .returned (.int .i64 (argsN op)) ∧ w = w' := by
  by_cases h1 : 1 ≤ op
  · by_cases h8 : op ≤ 8
    · have e : argsN op = 2 := by unfold argsN; rw [if_pos ⟨h1, h8⟩]
      rw [e]
      have t1 : decide ((1 : Int) ≤ op) = true := by simpa using h1
      have t2 : decide (op ≤ 8) = true := by simpa using h8
      clear e
      go_enter Try.func25, Try.ntmps25
      go_wp2_with fail
      go_ret
      exact ⟨rfl, rfl⟩
    · have t1 : decide ((1 : Int) ≤ op) = true := by simpa using h1
      have t2 : decide (op ≤ 8) = false := by simpa using h8
      by_cases h10 : op = 10
      · subst h10
        go_enter Try.func25, Try.ntmps25
        go_wp2_with fail
        go_ret
        exact ⟨rfl, rfl⟩
      · by_cases h9 : op = 9
        · subst h9
          go_enter Try.func25, Try.ntmps25
          go_wp2_with fail
          go_ret
          exact ⟨rfl, rfl⟩
        · by_cases h11 : op = 11
          · subst h11
            go_enter Try.func25, Try.ntmps25
            go_wp2_with fail
            go_ret
            exact ⟨rfl, rfl⟩
          · have e : argsN op = -1 := by unfold argsN; rw [if_neg (by omega), if_neg h10, if_neg (by omega)]
            rw [e]
            have t3 : (op == 10) = false := by simpa using h10
            have t4 : (op == 9) = false := by simpa using h9
            have t5 : (op == 11) = false := by simpa using h11
            clear e
            go_enter Try.func25, Try.ntmps25
            go_wp2_with fail
            go_ret
            exact ⟨rfl, rfl⟩
  · have e : argsN op = -1 := by unfold argsN; rw [if_neg (by omega), if_neg (by omega), if_neg (by omega)]
    rw [e]
    have t1 : decide ((1 : Int) ≤ op) = false := by simpa using h1
    have t3 : (op == 10) = false := by simp; omega
    have t4 : (op == 9) = false := by simp; omega
    have t5 : (op == 11) = false := by simp; omega
    clear e
    go_enter Try.func25, Try.ntmps25
    go_wp2_with fail
    go_ret
    exact ⟨rfl, rfl⟩

/-- Has an expression as many parts as it must? -/
def wholeOwn (k op : Int) (ns : List (List UInt8)) (la lb : Nat) (lc : Nat) : Bool :=
  !((k == 3 && ((ns.length : Int) == 0)) || (k == 4 && decide ((la : Int) < 2)) || (k == 5 && ((lb : Int) == 0)) || (k == 6 && ((lc : Int) == 0)) || (k == 8 && ((la : Int) != argsN op)))
/-- And all in a row. -/
def Fxwhole : Fx → Bool
  | .nil => true
  | .cons _ k _ _ op ns a b c r => (wholeOwn k op ns a.len b.len c.len && (Fxwhole a && (Fxwhole b && Fxwhole c))) && Fxwhole r
theorem whole_app (f g : Fx) : Fxwhole (f.app g) = (Fxwhole f && Fxwhole g) := by
  induction f with
  | nil => rfl
  | cons p k s n op ns a b c r _ _ _ ih => simp only [Fx.app, Fxwhole, ih, Bool.and_assoc]
theorem whole_bare (f : Fx) : Fxwhole f.bare = Fxwhole f := by
  induction f with
  | nil => rfl
  | cons p k s n op ns a b c r _ _ _ ih => simp only [Fx.bare, Fxwhole, ih]
def wholeB (k op : Int) (ns : List (List UInt8)) (a b c : Fx) : Bool := wholeOwn k op ns a.len b.len c.len && Fxwhole (parts a b c).bare
theorem whole_cons (p : Pre) (k : Int) (s : List UInt8) (n op : Int) (ns : List (List UInt8)) (a b c r : Fx) : Fxwhole (.cons p k s n op ns a b c r) = (wholeB k op ns a b c && Fxwhole r) := by
  unfold wholeB parts
  rw [whole_bare, whole_app, whole_app]
  rfl

set_option maxHeartbeats 2000000 in
set_option maxRecDepth 100000 in
theorem whole_any (n : Nat) : ∀ (k : Int) (s : List UInt8) (nn op : Int) (vn va vb vc : Value) (ns : List (List UInt8)) (a b c : Fx) (w : World), (parts a b c).count < n → (parts a b c).count ≤ 1048576 →
    ExV (Old w.heap.size) w vn va vb vc ns a b c → Calls Try.prog 18 #[exV k s nn op vn va vb vc] w fun e w' => e = .returned (.bool (wholeB k op ns a b c)) ∧ Below w.heap.size w w' := by
  induction n with
  | zero => intro _ _ _ _ _ _ _ _ _ _ _ _ _ h; omega
  | succ n ih =>
    intro k s nn op vn va vb vc ns a b c w hn hb hv
    obtain ⟨an, cn, rfl⟩ := hv.ns.slice
    obtain ⟨aa, ca, rfl⟩ := hv.a.slice
    obtain ⟨ab, cb, rfl⟩ := hv.b.slice
    obtain ⟨ac, cc, rfl⟩ := hv.c.slice
    have HV := Lib.hid hv
    clear hv
    unfold exV
    go_enter Try.func18, Try.ntmps18
    go_upto_region 1 with fail
    go_cut [60] (fun s60 wx => s60 = .bool (!wholeOwn k op ns a.len b.len c.len) ∧ Below (w.heap.size + 1) (w.alloc (exBox k s nn op (.slice an ns.length cn) (.slice aa a.len ca) (.slice ab b.len cb) (.slice ac c.len cc))) wx)
    case first =>
      by_cases hk : k = 3
      · have t3 : (k == 3) = true := by simp [hk]
        have t4 : (k == 4) = false := by simp [hk]
        have t5 : (k == 5) = false := by simp [hk]
        have t6 : (k == 6) = false := by simp [hk]
        have t8 : (k == 8) = false := by simp [hk]
        clear hk
        cases t : ((ns.length : Int) == 0) with
        | true =>
          have HT := Lib.hid (show wholeOwn k op ns a.len b.len c.len = false by unfold wholeOwn; rw [t3, t4, t5, t6, t8, t]; simp)
          go_quiet (fail)
          all_goals (go_wp2_with fail; go_meet; exact ⟨by rw [HT.out]; rfl, by exact below_drewN (Below.refl _ _) _⟩)
        | false =>
          have HT := Lib.hid (show wholeOwn k op ns a.len b.len c.len = true by unfold wholeOwn; rw [t3, t4, t5, t6, t8, t]; simp)
          go_quiet (fail)
          all_goals (go_wp2_with fail; go_meet; exact ⟨by rw [HT.out]; rfl, by exact below_drewN (Below.refl _ _) _⟩)
      · have t3 : (k == 3) = false := by simpa using hk
        clear hk
        by_cases hk : k = 4
        · have t3 : (k == 3) = false := by simp [hk]
          have t4 : (k == 4) = true := by simp [hk]
          have t5 : (k == 5) = false := by simp [hk]
          have t6 : (k == 6) = false := by simp [hk]
          have t8 : (k == 8) = false := by simp [hk]
          clear hk
          cases t : decide ((a.len : Int) < 2) with
          | true =>
            have HT := Lib.hid (show wholeOwn k op ns a.len b.len c.len = false by unfold wholeOwn; rw [t3, t4, t5, t6, t8, t]; simp)
            go_quiet (fail)
            all_goals (go_wp2_with fail; go_meet; exact ⟨by rw [HT.out]; rfl, by exact below_drewN (Below.refl _ _) _⟩)
          | false =>
            have HT := Lib.hid (show wholeOwn k op ns a.len b.len c.len = true by unfold wholeOwn; rw [t3, t4, t5, t6, t8, t]; simp)
            go_quiet (fail)
            all_goals (go_wp2_with fail; go_meet; exact ⟨by rw [HT.out]; rfl, by exact below_drewN (Below.refl _ _) _⟩)
        · have t4 : (k == 4) = false := by simpa using hk
          clear hk
          by_cases hk : k = 5
          · have t3 : (k == 3) = false := by simp [hk]
            have t4 : (k == 4) = false := by simp [hk]
            have t5 : (k == 5) = true := by simp [hk]
            have t6 : (k == 6) = false := by simp [hk]
            have t8 : (k == 8) = false := by simp [hk]
            clear hk
            cases t : ((b.len : Int) == 0) with
            | true =>
              have HT := Lib.hid (show wholeOwn k op ns a.len b.len c.len = false by unfold wholeOwn; rw [t3, t4, t5, t6, t8, t]; simp)
              go_quiet (fail)
              all_goals (go_wp2_with fail; go_meet; exact ⟨by rw [HT.out]; rfl, by exact below_drewN (Below.refl _ _) _⟩)
            | false =>
              have HT := Lib.hid (show wholeOwn k op ns a.len b.len c.len = true by unfold wholeOwn; rw [t3, t4, t5, t6, t8, t]; simp)
              go_quiet (fail)
              all_goals (go_wp2_with fail; go_meet; exact ⟨by rw [HT.out]; rfl, by exact below_drewN (Below.refl _ _) _⟩)
          · have t5 : (k == 5) = false := by simpa using hk
            clear hk
            by_cases hk : k = 6
            · have t3 : (k == 3) = false := by simp [hk]
              have t4 : (k == 4) = false := by simp [hk]
              have t5 : (k == 5) = false := by simp [hk]
              have t6 : (k == 6) = true := by simp [hk]
              have t8 : (k == 8) = false := by simp [hk]
              clear hk
              cases t : ((c.len : Int) == 0) with
              | true =>
                have HT := Lib.hid (show wholeOwn k op ns a.len b.len c.len = false by unfold wholeOwn; rw [t3, t4, t5, t6, t8, t]; simp)
                go_quiet (fail)
                all_goals (go_wp2_with fail; go_meet; exact ⟨by rw [HT.out]; rfl, by exact below_drewN (Below.refl _ _) _⟩)
              | false =>
                have HT := Lib.hid (show wholeOwn k op ns a.len b.len c.len = true by unfold wholeOwn; rw [t3, t4, t5, t6, t8, t]; simp)
                go_quiet (fail)
                all_goals (go_wp2_with fail; go_meet; exact ⟨by rw [HT.out]; rfl, by exact below_drewN (Below.refl _ _) _⟩)
            · have t6 : (k == 6) = false := by simpa using hk
              clear hk
              by_cases hk : k = 8
              · have t3 : (k == 3) = false := by simp [hk]
                have t4 : (k == 4) = false := by simp [hk]
                have t5 : (k == 5) = false := by simp [hk]
                have t6 : (k == 6) = false := by simp [hk]
                have t8 : (k == 8) = true := by simp [hk]
                clear hk
                cases t : ((a.len : Int) != argsN op) with
                | true =>
                  have HT := Lib.hid (show wholeOwn k op ns a.len b.len c.len = false by unfold wholeOwn; rw [t3, t4, t5, t6, t8, t]; simp)
                  go_quiet ((go_at_call 25; exact Calls.quiet_of_same ((args_any _ _).mono fun _ _ h => ⟨h.1, h.2.symm⟩)))
                  all_goals (go_wp2_with fail; go_meet; exact ⟨by rw [HT.out]; rfl, by exact below_drewN (Below.refl _ _) _⟩)
                | false =>
                  have HT := Lib.hid (show wholeOwn k op ns a.len b.len c.len = true by unfold wholeOwn; rw [t3, t4, t5, t6, t8, t]; simp)
                  go_quiet ((go_at_call 25; exact Calls.quiet_of_same ((args_any _ _).mono fun _ _ h => ⟨h.1, h.2.symm⟩)))
                  all_goals (go_wp2_with fail; go_meet; exact ⟨by rw [HT.out]; rfl, by exact below_drewN (Below.refl _ _) _⟩)
              · have t8 : (k == 8) = false := by simpa using hk
                clear hk
                have HT := Lib.hid (show wholeOwn k op ns a.len b.len c.len = true by unfold wholeOwn; rw [t3, t4, t5, t6, t8]; simp)
                go_quiet (fail)
                all_goals (go_wp2_with fail; go_meet; exact ⟨by rw [HT.out]; rfl, by exact below_drewN (Below.refl _ _) _⟩)
    case rest =>
      obtain ⟨rfl, hbel⟩ := hcut
      have HB := Lib.hid hbel
      have HB2 := Lib.hid (below_old hbel)
      have HW := hbel.size
      simp only [World.size_alloc] at HW
      obtain ⟨b0, b1, b2, b3, b4, b5, b6, b7⟩ := exBox_cell (Nat.lt_succ_self _) hbel
      clear hbel
      cases hown : wholeOwn k op ns a.len b.len c.len with
      | false =>
        have HT := Lib.hid (show wholeB k op ns a b c = false by unfold wholeB; rw [hown]; rfl)
        clear hown
        go_wp2_with fail
        go_ret
        exact ⟨by rw [HT.out]; rfl, HB2.out⟩
      | true =>
        have HT := Lib.hid (show wholeB k op ns a b c = Fxwhole (parts a b c).bare by unfold wholeB; rw [hown]; rfl)
        clear hown
        go_wp2_with ((go_at_call 26; refine (parts_any k s nn op _ _ _ _ ns a b c _ hb (HV.out.keep (keep_up HB2.out (Nat.le_refl _)))).mono ?_; rintro e w3 ⟨v3, rfl, hv3, hb3⟩))
        obtain ⟨F, hF⟩ : ∃ F, F = (parts a b c).bare := ⟨_, rfl⟩
        rw [← hF] at hv3 HT
        have hFc : F.count = (parts a b c).count := by rw [hF, Fx.count_bare]
        have hFl := F.len_le
        obtain ⟨a3, c3, rfl⟩ := hv3.slice
        have HV3 := Lib.hid hv3
        have HB3 := Lib.hid (blwS HB2.out hb3 HB2.out.size)
        have HFc := Lib.hid hFc
        clear hv3 hb3 hF b0 b1 b2 b3 b4 b5 b6 b7
        have hfl : F.len ≤ 1048576 := by omega
        clear hFc hFl
        go_loopw [4] (fun i wr => ∃ f1 f2 : Fx, F = f1.app f2 ∧ i = .int .i64 f1.len ∧ Fxwhole f1 = true ∧ Below w3.heap.size w3 wr) (fun i _ => F.len - (intOf i).toNat)
        case atStart => exact ⟨.nil, F, rfl, rfl, rfl, Below.refl _ _⟩
        case round =>
          obtain ⟨f1, f2, hf, rfl, hw1, hbel⟩ := hrel
          have HBr := Lib.hid hbel
          have HF := Lib.hid hf
          have HL := Lib.hid (congrArg Fx.len hf)
          have HW1 := Lib.hid hw1
          clear hbel hf hw1
          by_cases hlt : f1.len < F.len
          · obtain ⟨p1, k1, s1, n1, op1, ns1, x, y, z, r1, rfl⟩ := fx_cons_of HF.out hlt
            obtain ⟨bb, oo, xn, xa, xb, xc, rfl, hbb, hlc, hcm, hlt1, _, c0, c1, c2, c3', c4, c5, c6, c7, hx⟩ := fx_at (HV3.out.keep (keep_up HBr.out (Nat.le_refl _))) HF.out
            obtain ⟨yn, qn, rfl⟩ := hx.ns.slice
            obtain ⟨ya, qa, rfl⟩ := hx.a.slice
            obtain ⟨yb, qb, rfl⟩ := hx.b.slice
            obtain ⟨yc, qc, rfl⟩ := hx.c.slice
            have HX := Lib.hid hx
            have hbb' : bb < wr.heap.size := hbb
            clear hx hbb
            simp only [Nat.add_zero, Nat.zero_add] at c0 c1 c2 c3' c4 c5 c6 c7
            have hcx : (parts x y z).count < n ∧ (parts x y z).count ≤ 1048576 := by
              have := congrArg Fx.count HF.out
              rw [Fx.count_app, HFc.out] at this
              simp only [Fx.count] at this
              rw [parts_count x y z]; omega
            obtain ⟨hcx1, hcx2⟩ := hcx
            go_wp2_with fail
            refine (ih k1 s1 n1 op1 _ _ _ _ ns1 x y z _ hcx1 hcx2 HX.out).mono ?_
            rintro e w4 ⟨rfl, hb4⟩
            have HB4 := Lib.hid (blwS HBr.out hb4 HBr.out.size)
            clear hb4
            cases hr : wholeB k1 op1 ns1 x y z with
            | false =>
              have HR := Lib.hid hr
              clear hr
              go_wp2_with fail
              go_ret
              refine ⟨?_, blwS HB3.out HB4.out HB3.out.size⟩
              rw [HT.out, HF.out, whole_app, whole_cons, HR.out]
              simp
            | true =>
              have HR := Lib.hid hr
              clear hr
              go_wp2_with fail
              go_roundw
              case rel => exact ⟨f1.app (.cons p1 k1 s1 n1 op1 ns1 x y z .nil), r1, by rw [Fx.app_app]; exact HF.out, by rw [Fx.len_app]; simp only [Fx.len]; go_num, by rw [whole_app, whole_cons, HR.out, HW1.out]; rfl, HB4.out⟩
              case measure => simp [intOf]; omega
          · have e1 := fx_nil_of HF.out hlt
            go_wp2_with fail
            go_ret
            refine ⟨?_, blwS HB3.out HBr.out HB3.out.size⟩
            rw [HT.out, HF.out, e1, Fx.app_nil, HW1.out]
            rfl
end Go.Proofs.Ytkdpojmbahjdjaa
