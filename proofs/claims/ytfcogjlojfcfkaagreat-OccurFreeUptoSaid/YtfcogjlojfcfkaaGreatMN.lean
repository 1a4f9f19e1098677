/- The contracts of the reference's Right and of few. No condition but a bound on how many expressions there are. -/
import Derived.Test.YtfcogjlojfcfkaaGreatML
import Derived.Test.YtfcogjlojfcfkaaGreatMM
import Derived.Test.YtfcogjlojfcfkaaGreatMB
import Derived.Shelf.Abstract
section
namespace Go.Proofs.YtfcogjlojfcfkaaGreat
open Go.RowKit Ex0

/-- Is it an expression? -/
def rightB (k : Int) (s : List UInt8) (n op : Int) (ns : List (List UInt8)) (a b c : Fx) : Bool := shapeB k s n op ns a b c && wholeB k op ns a b c

set_option maxHeartbeats 2000000 in
theorem right_any (k : Int) (s : List UInt8) (nn op : Int) (vn va vb vc : Value) (ns : List (List UInt8)) (a b c : Fx) (w : World) (hb : (parts a b c).count ≤ 1048576) (hv : ExV (Old w.heap.size) w vn va vb vc ns a b c) :
    Calls Tryz.prog 12 #[exV k s nn op vn va vb vc] w fun e w' => e = .returned (.bool (rightB k s nn op ns a b c)) ∧ Below w.heap.size w w' := by
  obtain ⟨an, cn, rfl⟩ := hv.ns.slice
  obtain ⟨aa, ca, rfl⟩ := hv.a.slice
  obtain ⟨ab, cb, rfl⟩ := hv.b.slice
  obtain ⟨ac, cc, rfl⟩ := hv.c.slice
  have HV := Lib.hid hv
  clear hv
  unfold exV
  go_enter Tryz.func12, Tryz.ntmps12
  go_wp2_with fail
  refine (shape_any _ k s nn op _ _ _ _ ns a b c _ (Nat.lt_succ_self _) hb (HV.out.keep (keep_up (below_alloc' _ _) (Nat.le_refl _)))).mono ?_
  rintro e w2 ⟨rfl, hb2⟩
  have HB2 := Lib.hid (show Below (w.heap.size + 1) (w.alloc (exBox k s nn op (.slice an ns.length cn) (.slice aa a.len ca) (.slice ab b.len cb) (.slice ac c.len cc))) w2 from hb2.mono (by simp))
  have HB3 := Lib.hid (below_old HB2.out)
  clear hb2
  cases hs : shapeB k s nn op ns a b c with
  | false =>
    have HT := Lib.hid (show rightB k s nn op ns a b c = false by unfold rightB; rw [hs]; rfl)
    clear hs
    go_wp2_with fail
    go_ret
    exact ⟨by rw [HT.out]; rfl, HB3.out⟩
  | true =>
    have HT := Lib.hid (show rightB k s nn op ns a b c = wholeB k op ns a b c by unfold rightB; rw [hs]; rfl)
    clear hs
    obtain ⟨b0, b1, b2, b3, b4, b5, b6, b7⟩ := exBox_cell (Nat.lt_succ_self _) HB2.out
    go_wp2_with fail
    refine (whole_any _ k s nn op _ _ _ _ ns a b c _ (Nat.lt_succ_self _) hb (HV.out.keep (keep_up HB3.out (Nat.le_refl _)))).mono ?_
    rintro e w4 ⟨rfl, hb4⟩
    have HB4 := Lib.hid (blwS HB3.out hb4 HB3.out.size)
    clear hb4
    go_wp2_with fail
    go_ret
    exact ⟨by rw [HT.out]; rfl, HB4.out⟩

def FewPost (r : Bool) (w : World) (e : Ending) (w' : World) : Prop := ∃ v : Bool, e = .returned (.bool v) ∧ (v = true → r = true) ∧ Below w.heap.size w w'
def FewPost2 (r : Bool) (n : Nat) (w : World) (e : Ending) (w' : World) : Prop := ∃ v : Bool, e = .returned (.bool v) ∧ (v = true → r = true ∧ n < 20000) ∧ Below w.heap.size w w'
set_option maxHeartbeats 2000000 in
theorem few_cnt (k : Int) (s : List UInt8) (nn op : Int) (vn va vb vc : Value) (ns : List (List UInt8)) (a b c : Fx) (w : World) (hb : (parts a b c).count ≤ 1048576) (hv : ExV (Old w.heap.size) w vn va vb vc ns a b c) :
    Calls Tryz.prog 4 #[exV k s nn op vn va vb vc] w (FewPost2 (rightB k s nn op ns a b c) (1 + (parts a b c).count) w) := by
  obtain ⟨an, cn, rfl⟩ := hv.ns.slice
  obtain ⟨aa, ca, rfl⟩ := hv.a.slice
  obtain ⟨ab, cb, rfl⟩ := hv.b.slice
  obtain ⟨ac, cc, rfl⟩ := hv.c.slice
  have HV := Lib.hid hv
  clear hv
  unfold exV
  go_enter Tryz.func4, Tryz.ntmps4
  go_wp2_with fail
  refine (bounded_any _ k s nn op _ _ _ _ ns a b c 0 _ (Nat.lt_succ_self _) hb (by decide) (by decide) (HV.out.keep (keep_up (below_alloc' _ _) (Nat.le_refl _)))).mono ?_
  rintro e w2 ⟨m, o, rfl, hm1, hm2, hme, hb2⟩
  have HME := Lib.hid hme
  clear hme
  have HB2 := Lib.hid (show Below (w.heap.size + 1) (w.alloc (exBox k s nn op (.slice an ns.length cn) (.slice aa a.len ca) (.slice ab b.len cb) (.slice ac c.len cc))) w2 from hb2.mono (by simp))
  have HB3 := Lib.hid (below_old HB2.out)
  clear hb2
  cases o with
  | false =>
    go_wp2_with fail
    go_ret
    exact ⟨false, rfl, (fun h => by cases h), HB3.out⟩
  | true =>
    by_cases hl : (m : Int) < 20000
    · have q : decide ((m : Int) < 20000) = true := decide_eq_true hl
      have HLm := Lib.hid hl
      obtain ⟨b0, b1, b2, b3, b4, b5, b6, b7⟩ := exBox_cell (Nat.lt_succ_self _) HB2.out
      clear hl
      go_wp2_with fail
      refine (right_any k s nn op _ _ _ _ ns a b c _ hb (HV.out.keep (keep_up HB3.out (Nat.le_refl _)))).mono ?_
      rintro e w4 ⟨rfl, hb4⟩
      have HB4 := Lib.hid (blwS HB3.out hb4 HB3.out.size)
      clear hb4
      go_wp2_with fail
      go_ret
      exact ⟨_, rfl, fun h => ⟨h, by have := HME.out (by simp) (by have := HLm.out; omega); have := HLm.out; omega⟩, HB4.out⟩
    · have q : decide ((m : Int) < 20000) = false := decide_eq_false hl
      clear hl
      go_wp2_with fail
      go_ret
      exact ⟨false, rfl, (fun h => by cases h), HB3.out⟩
theorem few_any (k : Int) (s : List UInt8) (nn op : Int) (vn va vb vc : Value) (ns : List (List UInt8)) (a b c : Fx) (w : World) (hb : (parts a b c).count ≤ 1048576) (hv : ExV (Old w.heap.size) w vn va vb vc ns a b c) :
    Calls Tryz.prog 4 #[exV k s nn op vn va vb vc] w (FewPost (rightB k s nn op ns a b c) w) :=
  (few_cnt k s nn op vn va vb vc ns a b c w hb hv).mono fun _ _ ⟨v, e, h, hb⟩ => ⟨v, e, fun q => (h q).1, hb⟩
end Go.Proofs.YtfcogjlojfcfkaaGreat
end

section
namespace Go.Proofs.YtfcogjlojfcfkaaGreat.Ex0
open Go Go.RowKit

/-- Does an alternative of an expression let a name through? -/
def altSees (x : List UInt8) (k : Int) (s : List UInt8) : Pre → Bool
  | .alt _ _ _ ns => !decide (x ∈ ns) && !((k == 6) && decide (s = x))
  | _ => !((k == 6) && decide (s = x))
/-- How often a name stands in an expression, and whether once within a Lam, given its parts. -/
def usesOf (x : List UInt8) (k : Int) (s : List UInt8) (ns : List (List UInt8)) (A B C : List (Pre × Nat × Bool)) : Nat × Bool :=
  if k == 1 then (if s = x then 1 else 0, false)
  else if (k == 3) && decide (x ∈ ns) then (0, false)
  else if (k == 5) && B.any (fun t => decide (t.1 = .bind x)) then (0, false)
  else (((A ++ (B ++ C.filter fun t => altSees x k s t.1)).map fun t => t.2.1).sum, (A ++ (B ++ C.filter fun t => altSees x k s t.1)).any fun t => t.2.2 || (decide (0 < t.2.1) && (k == 3)))
def Fx.uses (x : List UInt8) : Fx → List (Pre × Nat × Bool)
  | .nil => []
  | .cons p k s _ _ ns a b c r => (p, usesOf x k s ns (a.uses x) (b.uses x) (c.uses x)) :: r.uses x
def usesE (x : List UInt8) (k : Int) (s : List UInt8) (ns : List (List UInt8)) (a b c : Fx) : Nat × Bool := usesOf x k s ns (a.uses x) (b.uses x) (c.uses x)

theorem sum_filter_le {α : Type} (l : List α) (p : α → Bool) (f : α → Nat) : ((l.filter p).map f).sum ≤ (l.map f).sum := by
  induction l with
  | nil => simp
  | cons a l ih =>
    rw [List.filter_cons]
    split
    · simp only [List.map_cons, List.sum_cons]; omega
    · simp only [List.map_cons, List.sum_cons]; omega
theorem usesOf_le (x : List UInt8) (k : Int) (s : List UInt8) (ns : List (List UInt8)) (A B C : List (Pre × Nat × Bool)) :
    (usesOf x k s ns A B C).1 ≤ 1 + ((A.map fun t => t.2.1).sum + (B.map fun t => t.2.1).sum + (C.map fun t => t.2.1).sum) := by
  unfold usesOf
  split
  · dsimp only
    split <;> omega
  · split
    · exact Nat.zero_le _
    · split
      · exact Nat.zero_le _
      · simp only [List.map_append, List.sum_append]
        have := sum_filter_le C (fun t => altSees x k s t.1) (fun t => t.2.1)
        omega
theorem uses_le (x : List UInt8) (f : Fx) : ((f.uses x).map fun t => t.2.1).sum ≤ f.count := by
  induction f with
  | nil => exact Nat.le_refl _
  | cons p k s n op ns a b c r iha ihb ihc ihr =>
    simp only [Fx.uses, List.map_cons, List.sum_cons, Fx.count]
    have := usesOf_le x k s ns (a.uses x) (b.uses x) (c.uses x)
    omega
theorem usesE_le (x : List UInt8) (k : Int) (s : List UInt8) (ns : List (List UInt8)) (a b c : Fx) : (usesE x k s ns a b c).1 ≤ 1 + (a.count + b.count + c.count) := by
  have h := usesOf_le x k s ns (a.uses x) (b.uses x) (c.uses x)
  have ha := uses_le x a
  have hb := uses_le x b
  have hc := uses_le x c
  unfold usesE
  omega

/-- What stands within a Lam stands. -/
theorem usesOf_pos (x : List UInt8) (k : Int) (s : List UInt8) (ns : List (List UInt8)) (A B C : List (Pre × Nat × Bool)) (hA : ∀ t ∈ A, t.2.2 = true → 0 < t.2.1) (hB : ∀ t ∈ B, t.2.2 = true → 0 < t.2.1) (hC : ∀ t ∈ C, t.2.2 = true → 0 < t.2.1)
    (h : (usesOf x k s ns A B C).2 = true) : 0 < (usesOf x k s ns A B C).1 := by
  unfold usesOf at h ⊢
  split at h
  · cases h
  · rename_i h1
    rw [if_neg h1]
    split at h
    · cases h
    · rename_i h2
      rw [if_neg h2]
      split at h
      · cases h
      · rename_i h3
        rw [if_neg h3]
        rw [List.any_eq_true] at h
        obtain ⟨t, ht, hp⟩ := h
        have hpos : 0 < t.2.1 := by
          simp only [Bool.or_eq_true, Bool.and_eq_true, decide_eq_true_eq] at hp
          rcases hp with hp | ⟨hp, _⟩
          · rcases List.mem_append.1 ht with ht | ht
            · exact hA t ht hp
            · rcases List.mem_append.1 ht with ht | ht
              · exact hB t ht hp
              · exact hC t (List.mem_filter.1 ht).1 hp
          · exact hp
        have hle : ∀ (l : List (Pre × Nat × Bool)), t ∈ l → t.2.1 ≤ (l.map fun t => t.2.1).sum := by
          intro l
          induction l with
          | nil => intro h; cases h
          | cons a l ih =>
            intro hm
            simp only [List.map_cons, List.sum_cons]
            rcases List.mem_cons.1 hm with rfl | hm
            · omega
            · have := ih hm; omega
        have := hle _ ht
        show 0 < (List.map (fun t : Pre × Nat × Bool => t.2.1) _).sum
        omega
theorem uses_pos (x : List UInt8) (f : Fx) : ∀ t ∈ f.uses x, t.2.2 = true → 0 < t.2.1 := by
  induction f with
  | nil => intro t h; cases h
  | cons p k s n op ns a b c r iha ihb ihc ihr =>
    intro t ht
    simp only [Fx.uses, List.mem_cons] at ht
    rcases ht with rfl | ht
    · exact usesOf_pos x k s ns _ _ _ iha ihb ihc
    · exact ihr t ht
theorem usesE_pos (x : List UInt8) (k : Int) (s : List UInt8) (ns : List (List UInt8)) (a b c : Fx) (h : (usesE x k s ns a b c).2 = true) : 0 < (usesE x k s ns a b c).1 :=
  usesOf_pos x k s ns _ _ _ (uses_pos x a) (uses_pos x b) (uses_pos x c) h

/-- Three expressions in a row. -/
def three (k0 : Int) (s0 : List UInt8) (n0 o0 : Int) (ns0 : List (List UInt8)) (a0 b0 c0 : Fx) (k1 : Int) (s1 : List UInt8) (n1 o1 : Int) (ns1 : List (List UInt8)) (a1 b1 c1 : Fx) (k2 : Int) (s2 : List UInt8) (n2 o2 : Int) (ns2 : List (List UInt8)) (a2 b2 c2 : Fx) : Fx :=
  .cons .no k0 s0 n0 o0 ns0 a0 b0 c0 (.cons .no k1 s1 n1 o1 ns1 a1 b1 c1 (.cons .no k2 s2 n2 o2 ns2 a2 b2 c2 .nil))
theorem uses_app3 (x : List UInt8) (k0 : Int) (s0 : List UInt8) (n0 o0 : Int) (ns0 : List (List UInt8)) (a0 b0 c0 : Fx) (k1 : Int) (s1 : List UInt8) (n1 o1 : Int) (ns1 : List (List UInt8)) (a1 b1 c1 : Fx) (k2 : Int) (s2 : List UInt8) (n2 o2 : Int) (ns2 : List (List UInt8)) (a2 b2 c2 : Fx) :
    usesE x 4 [] [] (three k0 s0 n0 o0 ns0 a0 b0 c0 k1 s1 n1 o1 ns1 a1 b1 c1 k2 s2 n2 o2 ns2 a2 b2 c2) .nil .nil =
      ((usesE x k0 s0 ns0 a0 b0 c0).1 + (usesE x k1 s1 ns1 a1 b1 c1).1 + (usesE x k2 s2 ns2 a2 b2 c2).1, ((usesE x k0 s0 ns0 a0 b0 c0).2 || (usesE x k1 s1 ns1 a1 b1 c1).2) || (usesE x k2 s2 ns2 a2 b2 c2).2) := by
  unfold usesE three
  simp only [Fx.uses]
  generalize usesOf x k0 s0 ns0 (a0.uses x) (b0.uses x) (c0.uses x) = r0
  generalize usesOf x k1 s1 ns1 (a1.uses x) (b1.uses x) (c1.uses x) = r1
  generalize usesOf x k2 s2 ns2 (a2.uses x) (b2.uses x) (c2.uses x) = r2
  unfold usesOf
  rw [if_neg (by decide), if_neg (by simp), if_neg (by simp)]
  simp [Nat.add_assoc, Bool.or_assoc]
theorem uses_lam1 (x y : List UInt8) (hxy : x ≠ y) (k : Int) (s : List UInt8) (n op : Int) (ns : List (List UInt8)) (a b c : Fx) :
    usesE x 3 [] [y] (.cons .no k s n op ns a b c .nil) .nil .nil = ((usesE x k s ns a b c).1, decide (0 < (usesE x k s ns a b c).1)) := by
  have hp := usesE_pos x k s ns a b c
  unfold usesE at hp ⊢
  simp only [Fx.uses]
  revert hp
  generalize usesOf x k s ns (a.uses x) (b.uses x) (c.uses x) = r
  intro hp
  unfold usesOf
  rw [if_neg (by decide), if_neg (by simp [hxy]), if_neg (by simp)]
  obtain ⟨r1, r2⟩ := r
  cases r2 with
  | false => simp
  | true => have := hp rfl; simp at this; simp [this]
end Go.Proofs.YtfcogjlojfcfkaaGreat.Ex0

namespace Go.Proofs.YtfcogjlojfcfkaaGreat
open Go.RowKit Ex0
theorem right_app3 {k0 : Int} {s0 : List UInt8} {n0 o0 : Int} {ns0 : List (List UInt8)} {a0 b0 c0 : Fx} {k1 : Int} {s1 : List UInt8} {n1 o1 : Int} {ns1 : List (List UInt8)} {a1 b1 c1 : Fx} {k2 : Int} {s2 : List UInt8} {n2 o2 : Int} {ns2 : List (List UInt8)} {a2 b2 c2 : Fx}
    (h0 : rightB k0 s0 n0 o0 ns0 a0 b0 c0 = true) (h1 : rightB k1 s1 n1 o1 ns1 a1 b1 c1 = true) (h2 : rightB k2 s2 n2 o2 ns2 a2 b2 c2 = true) :
    rightB 4 [] 0 0 [] (three k0 s0 n0 o0 ns0 a0 b0 c0 k1 s1 n1 o1 ns1 a1 b1 c1 k2 s2 n2 o2 ns2 a2 b2 c2) .nil .nil = true := by
  unfold rightB at h0 h1 h2 ⊢
  simp only [Bool.and_eq_true] at h0 h1 h2
  have e : (parts (three k0 s0 n0 o0 ns0 a0 b0 c0 k1 s1 n1 o1 ns1 a1 b1 c1 k2 s2 n2 o2 ns2 a2 b2 c2) .nil .nil).bare = three k0 s0 n0 o0 ns0 a0 b0 c0 k1 s1 n1 o1 ns1 a1 b1 c1 k2 s2 n2 o2 ns2 a2 b2 c2 := rfl
  unfold shapeB wholeB
  rw [e]
  unfold three
  rw [shape_cons, shape_cons, shape_cons, whole_cons, whole_cons, whole_cons, h0.1, h0.2, h1.1, h1.2, h2.1, h2.2]
  rfl
theorem right_lam1 {y : List UInt8} {k : Int} {s : List UInt8} {n op : Int} {ns : List (List UInt8)} {a b c : Fx} (h : rightB k s n op ns a b c = true) : rightB 3 [] 0 0 [y] (.cons .no k s n op ns a b c .nil) .nil .nil = true := by
  unfold rightB at h ⊢
  simp only [Bool.and_eq_true] at h
  have e : (parts (.cons .no k s n op ns a b c .nil) .nil .nil).bare = .cons .no k s n op ns a b c .nil := rfl
  unfold shapeB wholeB
  rw [e, shape_cons, whole_cons, h.1, h.2]
  rfl
end Go.Proofs.YtfcogjlojfcfkaaGreat
end

section
namespace Go.Proofs.YtfcogjlojfcfkaaGreat.Ex0
open Go Go.RowKit

/-- Some of a row. -/
def Fx.sel (q : Pre → Bool) : Fx → Fx
  | .nil => .nil
  | .cons p k s n op ns a b c r => if q p then .cons p k s n op ns a b c (r.sel q) else r.sel q
theorem sel_app (q : Pre → Bool) (f g : Fx) : (f.app g).sel q = (f.sel q).app (g.sel q) := by
  induction f with
  | nil => rfl
  | cons p k s n op ns a b c r _ _ _ ih =>
    simp only [Fx.app, Fx.sel]
    split
    · simp only [Fx.app, ih]
    · exact ih
theorem sel_count (q : Pre → Bool) (f : Fx) : (f.sel q).count ≤ f.count := by
  induction f with
  | nil => exact Nat.le_refl _
  | cons p k s n op ns a b c r _ _ _ ih =>
    simp only [Fx.sel, Fx.count]
    split
    · simp only [Fx.count]; omega
    · omega
theorem sel_len (q : Pre → Bool) (f : Fx) : (f.sel q).len ≤ f.len := by
  induction f with
  | nil => exact Nat.le_refl _
  | cons p k s n op ns a b c r _ _ _ ih =>
    simp only [Fx.sel, Fx.len]
    split
    · simp only [Fx.len]; omega
    · omega
def sumU (x : List UInt8) : Fx → Nat
  | .nil => 0
  | .cons _ k s _ _ ns a b c r => (usesE x k s ns a b c).1 + sumU x r
def anyU (x : List UInt8) (lam : Bool) : Fx → Bool
  | .nil => false
  | .cons _ k s _ _ ns a b c r => ((usesE x k s ns a b c).2 || (decide (0 < (usesE x k s ns a b c).1) && lam)) || anyU x lam r
theorem sumU_app (x : List UInt8) (f g : Fx) : sumU x (f.app g) = sumU x f + sumU x g := by
  induction f with
  | nil => simp [Fx.app, sumU]
  | cons p k s n op ns a b c r _ _ _ ih => simp only [Fx.app, sumU, ih]; omega
theorem anyU_app (x : List UInt8) (lam : Bool) (f g : Fx) : anyU x lam (f.app g) = (anyU x lam f || anyU x lam g) := by
  induction f with
  | nil => simp [Fx.app, anyU]
  | cons p k s n op ns a b c r _ _ _ ih => simp only [Fx.app, anyU, ih, Bool.or_assoc]
theorem sumU_bare (x : List UInt8) (f : Fx) : sumU x f.bare = sumU x f := by
  induction f with
  | nil => rfl
  | cons p k s n op ns a b c r _ _ _ ih => simp only [Fx.bare, sumU, ih]
theorem anyU_bare (x : List UInt8) (lam : Bool) (f : Fx) : anyU x lam f.bare = anyU x lam f := by
  induction f with
  | nil => rfl
  | cons p k s n op ns a b c r _ _ _ ih => simp only [Fx.bare, anyU, ih]
theorem sumU_uses (x : List UInt8) (f : Fx) : ((f.uses x).map fun t => t.2.1).sum = sumU x f := by
  induction f with
  | nil => rfl
  | cons p k s n op ns a b c r _ _ _ ih => simp only [Fx.uses, List.map_cons, List.sum_cons, sumU, ih]; rfl
theorem anyU_uses (x : List UInt8) (lam : Bool) (f : Fx) : ((f.uses x).any fun t => t.2.2 || (decide (0 < t.2.1) && lam)) = anyU x lam f := by
  induction f with
  | nil => rfl
  | cons p k s n op ns a b c r _ _ _ ih => simp only [Fx.uses, List.any_cons, anyU, ih]; rfl
theorem uses_sel (x : List UInt8) (q : Pre → Bool) (f : Fx) : (f.sel q).uses x = (f.uses x).filter fun t => q t.1 := by
  induction f with
  | nil => rfl
  | cons p k s n op ns a b c r _ _ _ ih =>
    simp only [Fx.sel, Fx.uses, List.filter_cons]
    split
    · simp only [Fx.uses, ih]
    · exact ih
theorem sumU_le (x : List UInt8) (f : Fx) : sumU x f ≤ f.count := by rw [← sumU_uses]; exact uses_le x f
/-- Is a name bound in a row of binds? -/
def bindsX (x : List UInt8) : Fx → Bool
  | .nil => false
  | .cons p _ _ _ _ _ _ _ _ r => decide (p = .bind x) || bindsX x r
theorem bindsX_app (x : List UInt8) (f g : Fx) : bindsX x (f.app g) = (bindsX x f || bindsX x g) := by
  induction f with
  | nil => simp [Fx.app, bindsX]
  | cons p k s n op ns a b c r _ _ _ ih => simp only [Fx.app, bindsX, ih, Bool.or_assoc]
theorem bindsX_uses (x : List UInt8) (f : Fx) : ((f.uses x).any fun t => decide (t.1 = .bind x)) = bindsX x f := by
  induction f with
  | nil => rfl
  | cons p k s n op ns a b c r _ _ _ ih => simp only [Fx.uses, List.any_cons, bindsX, ih]
/-- What is gone through. -/
def open' (x : List UInt8) (k : Int) (s : List UInt8) (a b c : Fx) : Fx := (a.app (b.app (c.sel (altSees x k s)))).bare
theorem usesE_open {x : List UInt8} {k : Int} {s : List UInt8} {ns : List (List UInt8)} {a b c : Fx} (h1 : (k == 1) = false) (h3 : ((k == 3) && decide (x ∈ ns)) = false) (h5 : ((k == 5) && bindsX x b) = false) :
    usesE x k s ns a b c = (sumU x (open' x k s a b c), anyU x (k == 3) (open' x k s a b c)) := by
  unfold usesE usesOf open'
  rw [bindsX_uses, if_neg (by rw [h1]; simp), if_neg (by rw [h3]; simp), if_neg (by rw [h5]; simp), sumU_bare, anyU_bare, sumU_app, sumU_app, anyU_app, anyU_app, ← sumU_uses, ← sumU_uses, ← sumU_uses, ← anyU_uses, ← anyU_uses, ← anyU_uses, uses_sel]
  simp only [List.map_append, List.sum_append, List.any_append]
theorem usesE_var {x : List UInt8} {k : Int} {s : List UInt8} {ns : List (List UInt8)} {a b c : Fx} (h1 : (k == 1) = true) : usesE x k s ns a b c = (if s = x then 1 else 0, false) := by
  unfold usesE usesOf
  rw [if_pos (by rw [h1])]
theorem usesE_lam {x : List UInt8} {k : Int} {s : List UInt8} {ns : List (List UInt8)} {a b c : Fx} (h1 : (k == 1) = false) (h3 : (k == 3) = true) (h : x ∈ ns) : usesE x k s ns a b c = (0, false) := by
  unfold usesE usesOf
  rw [if_neg (by rw [h1]; simp), if_pos (by rw [h3]; simpa using h)]
theorem usesE_let {x : List UInt8} {k : Int} {s : List UInt8} {ns : List (List UInt8)} {a b c : Fx} (h1 : (k == 1) = false) (h3 : (k == 3) = false) (h5 : (k == 5) = true) (h : bindsX x b = true) : usesE x k s ns a b c = (0, false) := by
  unfold usesE usesOf
  rw [bindsX_uses, if_neg (by rw [h1]; simp), if_neg (by rw [h3]; simp), if_pos (by rw [h5, h]; rfl)]
end Go.Proofs.YtfcogjlojfcfkaaGreat.Ex0
end

section
namespace Go.Proofs.YtfcogjlojfcfkaaGreat
open Go.RowKit Go.Shelf Ex0
attribute [local go_sem] bt_size bt_list bt_toList

set_option maxHeartbeats 1000000 in
theorem bound1_any (bx cb kb : Nat) (s : List UInt8) (v1 v2 v3 v4 v5 v6 v7 v8 : Value) (x : List UInt8) (p : Int) (w : World) (hb : w.cell? ⟨bx, 0, none⟩ = some (.pointer (some ⟨cb, 0, none⟩))) (hc : Ctr w cb kb x p) :
    Calls Tryz.prog 72 #[.agg #[.string (bt s), v1, v2, v3, v4, v5, v6, v7, v8], .pointer (some ⟨bx, 0, none⟩)] w fun e w' => e = .returned (.bool (s == x)) ∧ Below w.heap.size w w' := by
  obtain ⟨c0, _⟩ := ctr_cell hc
  have hbl := World.block_lt_of_cell? w _ hb
  have hcl := (ctr_lt hc).1
  have z0 := cell_al hbl hb
  have z1 := cell_al hcl c0
  clear hc hbl hcl hb c0
  go_enter Tryz.func72, Tryz.ntmps72
  go_wp2_with fail
  go_quiet (fail)
  go_wp2_with fail
  go_ret
  exact ⟨rfl, below_same (below_alloc' _ _) rfl rfl rfl rfl⟩

theorem binds_left {x : List UInt8} {p : Pre} {k : Int} {s : List UInt8} {n op : Int} {ns : List (List UInt8)} {a b c f1 r : Fx} (h : decide (p = .bind x) = true) : bindsX x (f1.app (.cons p k s n op ns a b c r)) = true := by
  rw [bindsX_app]; simp only [bindsX, h, Bool.true_or, Bool.or_true]
theorem binds_next {x : List UInt8} {p : Pre} {k : Int} {s : List UInt8} {n op : Int} {ns : List (List UInt8)} {a b c f1 : Fx} (h1 : bindsX x f1 = false) (h : decide (p = .bind x) = false) : bindsX x (f1.app (.cons p k s n op ns a b c .nil)) = false := by
  rw [bindsX_app, h1]; simp only [bindsX, h, Bool.or_false]

set_option maxHeartbeats 2000000 in
set_option maxRecDepth 100000 in
theorem indexf_any (bx cb kb : Nat) (v : Value) (b : Fx) (x : List UInt8) (p : Int) (w : World) (M : Nat) (hl : b.len ≤ 1048576) (hv : FxV (Old M) w 1 v b) (hMw : M ≤ w.heap.size) (hb : w.cell? ⟨bx, 0, none⟩ = some (.pointer (some ⟨cb, 0, none⟩))) (hc : Ctr w cb kb x p) :
    Calls Tryz.prog 60 #[v, .func (.func 72) #[] #[.pointer (some ⟨bx, 0, none⟩)]] w fun e w' => (∃ i : Int, e = .returned (.int .i64 i) ∧ (0 ≤ i ↔ bindsX x b = true)) ∧ Below w.heap.size w w' := by
  obtain ⟨a, c, rfl⟩ := hv.slice
  have HV := Lib.hid hv
  have HBx := Lib.hid hb
  have HC := Lib.hid hc
  have hbl := World.block_lt_of_cell? w _ hb
  have hcl := ctr_lt hc
  clear hv hb hc
  go_enter Tryz.func60, Tryz.ntmps60
  go_wp2_with fail
  go_loopw [8] (fun i wr => ∃ f1 f2 : Fx, b = f1.app f2 ∧ i = .int .i64 f1.len ∧ bindsX x f1 = false ∧ Below w.heap.size w wr) (fun i _ => b.len - (intOf i).toNat)
  case atStart => exact ⟨.nil, b, rfl, rfl, rfl, Below.refl _ _⟩
  case round =>
    obtain ⟨f1, f2, hf, rfl, hno, hbel⟩ := hrel
    have HF := Lib.hid hf
    have HN := Lib.hid hno
    have HB := Lib.hid hbel
    have HW := hbel.size
    have hbw := (hbel.cell (p := ⟨bx, 0, none⟩) hbl).trans HBx.out
    have HCw := Lib.hid (show Ctr wr cb kb x p from ⟨(hbel.block cb hcl.1).trans HC.out.1, (hbel.block kb hcl.2.1).trans HC.out.2⟩)
    clear hf hno hbel
    have hfl := congrArg Fx.len HF.out
    rw [Fx.len_app] at hfl
    cases f2 with
    | nil =>
      rw [Fx.app_nil] at HF
      have hlt : ¬ f1.len < b.len := by simp only [Fx.len] at hfl; omega
      have HT := Lib.hid (show bindsX x b = false by rw [HF.out]; exact HN.out)
      clear hfl
      go_wp2_with fail
      go_ret
      exact ⟨⟨_, rfl, by simp [HT.out]⟩, HB.out⟩
    | cons p1 k1 s1 n1 op1 ns1 xa xb xc r =>
      have hlt : f1.len < b.len := by simp only [Fx.len] at hfl; omega
      obtain ⟨bb, oo, xn, va, vb, vc, rfl, hbb, hlc, hcm, _, hp, c0, c1, c2, c3, c4, c5, c6, c7, hx⟩ := fx_at (HV.out.keep (keep_below (HB.out.mono hMw) fun _ h => h)) HF.out
      clear hx hfl
      cases p1 with
      | no => exact absurd (show (1 : Nat) = 0 from hp) (by decide)
      | alt k s n ns => exact absurd hp.1 (by decide)
      | bind t =>
        obtain ⟨_, e0⟩ := hp
        simp only [Nat.reduceAdd] at e0 c0 c1 c2 c3 c4 c5 c6 c7
        unfold maxLen at hcm
        go_wp2_with fail
        refine (bound1_any bx cb kb t _ _ _ _ _ _ _ _ x p _ hbw HCw.out).mono ?_
        rintro e w3 ⟨rfl, hb3⟩
        have HB3 := Lib.hid (blwS HB.out hb3 HW)
        clear hb3
        cases hq : (t == x) with
        | true =>
          have HT := Lib.hid (show bindsX x b = true by rw [HF.out]; exact binds_left (by simpa using hq))
          clear hq
          go_wp2_with fail
          go_ret
          exact ⟨⟨_, rfl, by simp [HT.out]⟩, HB3.out⟩
        | false =>
          have HT := Lib.hid (show decide (Pre.bind t = .bind x) = false by simpa using hq)
          clear hq
          go_wp2_with fail
          go_roundw
          case rel => exact ⟨f1.app (.cons (.bind t) k1 s1 n1 op1 ns1 xa xb xc .nil), r, by rw [Fx.app_app]; exact HF.out, by rw [Fx.len_app]; simp only [Fx.len]; go_num, binds_next HN.out HT.out, HB3.out⟩
          case measure => simp [intOf]; omega

theorem containsf_any (bx cb kb : Nat) (v : Value) (b : Fx) (x : List UInt8) (p : Int) (w : World) (M : Nat) (hl : b.len ≤ 1048576) (hv : FxV (Old M) w 1 v b) (hMw : M ≤ w.heap.size) (hb : w.cell? ⟨bx, 0, none⟩ = some (.pointer (some ⟨cb, 0, none⟩))) (hc : Ctr w cb kb x p) :
    Calls Tryz.prog 36 #[v, .func (.func 72) #[] #[.pointer (some ⟨bx, 0, none⟩)]] w fun e w' => e = .returned (.bool (bindsX x b)) ∧ Below w.heap.size w w' := by
  obtain ⟨a, c, rfl⟩ := hv.slice
  have HV := Lib.hid hv
  have HBx := Lib.hid hb
  have HC := Lib.hid hc
  clear hv hb hc
  go_enter Tryz.func36, Tryz.ntmps36
  go_wp2_with fail
  refine (indexf_any bx cb kb _ b x p _ M hl HV.out hMw HBx.out HC.out).mono ?_
  rintro e w2 ⟨⟨i, rfl, hi⟩, hb2⟩
  have HI := Lib.hid (show decide (i ≥ 0) = bindsX x b by
    cases h : bindsX x b with
    | true => exact decide_eq_true (hi.2 h)
    | false => exact decide_eq_false (fun k => by rw [hi.1 k] at h; cases h))
  have HB2 := Lib.hid hb2
  clear hi hb2
  go_wp2_with fail
  go_ret
  exact ⟨by rw [← HI.out]; rfl, HB2.out⟩

set_option maxHeartbeats 1000000 in
theorem isbound_any (cb kb : Nat) (v : Value) (b : Fx) (x : List UInt8) (p : Int) (w : World) (M : Nat) (hl : b.len ≤ 1048576) (hv : FxV (Old M) w 1 v b) (hM : M ≤ cb) (hMw : M ≤ w.heap.size) (hc : Ctr w cb kb x p) (hp : 0 ≤ p ∧ p ≤ 1048576) :
    Calls Tryz.prog 50 #[.pointer (some ⟨cb, 0, none⟩), v] w fun e w' => e = .returned (.bool (bindsX x b)) ∧ Ct cb w w' ∧ Ctr w' cb kb x (p - b.len) := by
  obtain ⟨a, c, rfl⟩ := hv.slice
  have HV := Lib.hid hv
  have hlt := ctr_lt hc
  have hc2 : Ctr ((w.setCell ⟨cb, 1, none⟩ (.int .i64 (p - b.len))).alloc (.cells #[.pointer (some ⟨cb, 0, none⟩)] 44)) cb kb x (p - b.len) := (ctr_set hc _).alloc _
  have hct := ((Ct.refl cb w).set (b := cb) (o := 1) (.inl rfl) (.int .i64 (p - b.len))).trans (Ct.alloc cb _ (.cells #[.pointer (some ⟨cb, 0, none⟩)] 44))
  have HBx := Lib.hid (show ((w.setCell ⟨cb, 1, none⟩ (.int .i64 (p - b.len))).alloc (.cells #[.pointer (some ⟨cb, 0, none⟩)] 44)).cell? ⟨w.heap.size, 0, none⟩ = some (.pointer (some ⟨cb, 0, none⟩)) by simp [go_sem])
  obtain ⟨c0, c1, c2, c3, f1⟩ := ctr_cell hc
  have HC2 := Lib.hid hc2
  have HCt := Lib.hid hct
  have hp0 := hp.1
  have hp1 := hp.2
  clear hv hc hp hc2 hct
  go_enter Tryz.func50, Tryz.ntmps50
  go_wp2_with fail
  refine (containsf_any w.heap.size cb kb _ b x _ _ M hl (HV.out.keep (keep_ct HCt.out hM hMw)) (Nat.le_trans hMw HCt.out.size) HBx.out HC2.out).mono ?_
  rintro e w2 ⟨rfl, hb2⟩
  have hl2 := ctr_lt HC2.out
  have HF := Lib.hid (show Ct cb w w2 ∧ Ctr w2 cb kb x (p - b.len) from ⟨HCt.out.trans (Ct.of_below hb2), (hb2.block cb hl2.1).trans HC2.out.1, (hb2.block kb hl2.2.1).trans HC2.out.2⟩)
  clear hb2 hl2
  go_wp2_with fail
  go_ret
  exact ⟨rfl, HF.out⟩
end Go.Proofs.YtfcogjlojfcfkaaGreat
end
