/- How often a name stands in an expression, and where. No condition. -/
import Derived.Test.YtkdpojmbahjdjaaFew
namespace Go.Proofs.Ytkdpojmbahjdjaa.Ex0
open Go Go.RowKit

/-- Does an alternative of an expression let a name through? -/
def altSees (x : List UInt8) (k : Int) (s : List UInt8) : Pre → Bool
  | .alt _ _ _ ns => !decide (x ∈ ns) && !((k == 6) && decide (s = x))
  | _ => !((k == 6) && decide (s = x))
/-- How often a name stands in an expression, and whether once within a Lam, given its parts. -/
def usesOf (x : List UInt8) (k : Int) (s : List UInt8) (ns : List (List UInt8)) (A B C : List (Pre × Nat × Bool)) : Nat × Bool :=
  if k == 1 then (if s = x then 1 else 0, false)
  else if (k == 3) && decide (x ∈ ns) then (0, false)
  else if (k == 5) && B.any (fun t => decide (t.1 = .bind x)) then (0, false)
  else (((A ++ (B ++ C.filter fun t => altSees x k s t.1)).map fun t => t.2.1).sum, (A ++ (B ++ C.filter fun t => altSees x k s t.1)).any fun t => t.2.2 || (decide (0 < t.2.1) && (k == 3)))
def Fx.uses (x : List UInt8) : Fx → List (Pre × Nat × Bool)
  | .nil => []
  | .cons p k s _ _ ns a b c r => (p, usesOf x k s ns (a.uses x) (b.uses x) (c.uses x)) :: r.uses x
def usesE (x : List UInt8) (k : Int) (s : List UInt8) (ns : List (List UInt8)) (a b c : Fx) : Nat × Bool := usesOf x k s ns (a.uses x) (b.uses x) (c.uses x)

theorem sum_filter_le {α : Type} (l : List α) (p : α → Bool) (f : α → Nat) : ((l.filter p).map f).sum ≤ (l.map f).sum := by
  induction l with
  | nil => simp
  | cons a l ih =>
    rw [List.filter_cons]
    split
    · simp only [List.map_cons, List.sum_cons]; omega
    · simp only [List.map_cons, List.sum_cons]; omega
theorem usesOf_le (x : List UInt8) (k : Int) (s : List UInt8) (ns : List (List UInt8)) (A B C : List (Pre × Nat × Bool)) :
    (usesOf x k s ns A B C).1 ≤ 1 + ((A.map fun t => t.2.1).sum + (B.map fun t => t.2.1).sum + (C.map fun t => t.2.1).sum) := by
  unfold usesOf
  split
  · dsimp only
    split <;> omega
  · split
    · exact Nat.zero_le _
    · split
      · exact Nat.zero_le _
      · simp only [List.map_append, List.sum_append]
        have := sum_filter_le C (fun t => altSees x k s t.1) (fun t => t.2.1)
        omega
theorem uses_le (x : List UInt8) (f : Fx) : ((f.uses x).map fun t => t.2.1).sum ≤ f.count := by
  induction f with
  | nil => exact Nat.le_refl _
  | cons p k s n op ns a b c r iha ihb ihc ihr =>
    simp only [Fx.uses, List.map_cons, List.sum_cons, Fx.count]
    have := usesOf_le x k s ns (a.uses x) (b.uses x) (c.uses x)
    omega
theorem usesE_le (x : List UInt8) (k : Int) (s : List UInt8) (ns : List (List UInt8)) (a b c : Fx) : (usesE x k s ns a b c).1 ≤ 1 + (a.count + b.count + c.count) := by
  have h := usesOf_le x k s ns (a.uses x) (b.uses x) (c.uses x)
  have ha := uses_le x a
  have hb := uses_le x b
  have hc := uses_le x c
  unfold usesE
  omega

/-- What stands within a Lam stands. -/
theorem usesOf_pos (x : List UInt8) (k : Int) (s : List UInt8) (ns : List (List UInt8)) (A B C : List (Pre × Nat × Bool)) (hA : ∀ t ∈ A, t.2.2 = true → 0 < t.2.1) (hB : ∀ t ∈ B, t.2.2 = true → 0 < t.2.1) (hC : ∀ t ∈ C, t.2.2 = true → 0 < t.2.1)
    (h : (usesOf x k s ns A B C).2 = true) : 0 < (usesOf x k s ns A B C).1 := by
  unfold usesOf at h ⊢
  split at h
  · cases h
  · rename_i h1
    rw [if_neg h1]
    split at h
    · cases h
    · rename_i h2
      rw [if_neg h2]
      split at h
      · cases h
      · rename_i h3
        rw [if_neg h3]
        rw [List.any_eq_true] at h
        obtain ⟨t, ht, hp⟩ := h
        have hpos : 0 < t.2.1 := by
          simp only [Bool.or_eq_true, Bool.and_eq_true, decide_eq_true_eq] at hp
          rcases hp with hp | ⟨hp, _⟩
          · rcases List.mem_append.1 ht with ht | ht
            · exact hA t ht hp
            · rcases List.mem_append.1 ht with ht | ht
              · exact hB t ht hp
              · exact hC t (List.mem_filter.1 ht).1 hp
          · exact hp
        have hle : ∀ (l : List (Pre × Nat × Bool)), t ∈ l → t.2.1 ≤ (l.map fun t => t.2.1).sum := by
          intro l
          induction l with
          | nil => intro h; cases h
          | cons a l ih =>
            intro hm
            simp only [List.map_cons, List.sum_cons]
            rcases List.mem_cons.1 hm with rfl | hm
            · omega
            · have := ih hm; omega
        have := hle _ ht
        show 0 < (List.map (fun t : Pre × Nat × Bool => t.2.1) _).sum
        omega
theorem uses_pos (x : List UInt8) (f : Fx) : ∀ t ∈ f.uses x, t.2.2 = true → 0 < t.2.1 := by
  induction f with
  | nil => intro t h; cases h
  | cons p k s n op ns a b c r iha ihb ihc ihr =>
    intro t ht
    simp only [Fx.uses, List.mem_cons] at ht
    rcases ht with rfl | ht
    · exact usesOf_pos x k s ns _ _ _ iha ihb ihc
    · exact ihr t ht
theorem usesE_pos (x : List UInt8) (k : Int) (s : List UInt8) (ns : List (List UInt8)) (a b c : Fx) (h : (usesE x k s ns a b c).2 = true) : 0 < (usesE x k s ns a b c).1 :=
  usesOf_pos x k s ns _ _ _ (uses_pos x a) (uses_pos x b) (uses_pos x c) h

/-- Three expressions in a row. -/
def three (k0 : Int) (s0 : List UInt8) (n0 o0 : Int) (ns0 : List (List UInt8)) (a0 b0 c0 : Fx) (k1 : Int) (s1 : List UInt8) (n1 o1 : Int) (ns1 : List (List UInt8)) (a1 b1 c1 : Fx) (k2 : Int) (s2 : List UInt8) (n2 o2 : Int) (ns2 : List (List UInt8)) (a2 b2 c2 : Fx) : Fx :=
  .cons .no k0 s0 n0 o0 ns0 a0 b0 c0 (.cons .no k1 s1 n1 o1 ns1 a1 b1 c1 (.cons .no k2 s2 n2 o2 ns2 a2 b2 c2 .nil))
theorem uses_app3 (x : List UInt8) (k0 : Int) (s0 : List UInt8) (n0 o0 : Int) (ns0 : List (List UInt8)) (a0 b0 c0 : Fx) (k1 : Int) (s1 : List UInt8) (n1 o1 : Int) (ns1 : List (List UInt8)) (a1 b1 c1 : Fx) (k2 : Int) (s2 : List UInt8) (n2 o2 : Int) (ns2 : List (List UInt8)) (a2 b2 c2 : Fx) :
    usesE x 4 [] [] (three k0 s0 n0 o0 ns0 a0 b0 c0 k1 s1 n1 o1 ns1 a1 b1 c1 k2 s2 n2 o2 ns2 a2 b2 c2) .nil .nil =
      ((usesE x k0 s0 ns0 a0 b0 c0).1 + (usesE x k1 s1 ns1 a1 b1 c1).1 + (usesE x k2 s2 ns2 a2 b2 c2).1, ((usesE x k0 s0 ns0 a0 b0 c0).2 || (usesE x k1 s1 ns1 a1 b1 c1).2) || (usesE x k2 s2 ns2 a2 b2 c2).2) := by
  unfold usesE three
  simp only [Fx.uses]
  generalize usesOf x k0 s0 ns0 (a0.uses x) (b0.uses x) (c0.uses x) = r0
  generalize usesOf x k1 s1 ns1 (a1.uses x) (b1.uses x) (c1.uses x) = r1
  generalize usesOf x k2 s2 ns2 (a2.uses x) (b2.uses x) (c2.uses x) = r2
  unfold usesOf
  rw [if_neg (by decide), if_neg (by simp), if_neg (by simp)]
  simp [Nat.add_assoc, Bool.or_assoc]
theorem uses_lam1 (x y : List UInt8) (hxy : x ≠ y) (k : Int) (s : List UInt8) (n op : Int) (ns : List (List UInt8)) (a b c : Fx) :
    usesE x 3 [] [y] (.cons .no k s n op ns a b c .nil) .nil .nil = ((usesE x k s ns a b c).1, decide (0 < (usesE x k s ns a b c).1)) := by
  have hp := usesE_pos x k s ns a b c
  unfold usesE at hp ⊢
  simp only [Fx.uses]
  revert hp
  generalize usesOf x k s ns (a.uses x) (b.uses x) (c.uses x) = r
  intro hp
  unfold usesOf
  rw [if_neg (by decide), if_neg (by simp [hxy]), if_neg (by simp)]
  obtain ⟨r1, r2⟩ := r
  cases r2 with
  | false => simp
  | true => have := hp rfl; simp at this; simp [this]
end Go.Proofs.Ytkdpojmbahjdjaa.Ex0

namespace Go.Proofs.Ytkdpojmbahjdjaa
open Go.RowKit Ex0
theorem right_app3 {k0 : Int} {s0 : List UInt8} {n0 o0 : Int} {ns0 : List (List UInt8)} {a0 b0 c0 : Fx} {k1 : Int} {s1 : List UInt8} {n1 o1 : Int} {ns1 : List (List UInt8)} {a1 b1 c1 : Fx} {k2 : Int} {s2 : List UInt8} {n2 o2 : Int} {ns2 : List (List UInt8)} {a2 b2 c2 : Fx}
    (h0 : rightB k0 s0 n0 o0 ns0 a0 b0 c0 = true) (h1 : rightB k1 s1 n1 o1 ns1 a1 b1 c1 = true) (h2 : rightB k2 s2 n2 o2 ns2 a2 b2 c2 = true) :
    rightB 4 [] 0 0 [] (three k0 s0 n0 o0 ns0 a0 b0 c0 k1 s1 n1 o1 ns1 a1 b1 c1 k2 s2 n2 o2 ns2 a2 b2 c2) .nil .nil = true := by
  unfold rightB at h0 h1 h2 ⊢
  simp only [Bool.and_eq_true] at h0 h1 h2
  have e : (parts (three k0 s0 n0 o0 ns0 a0 b0 c0 k1 s1 n1 o1 ns1 a1 b1 c1 k2 s2 n2 o2 ns2 a2 b2 c2) .nil .nil).bare = three k0 s0 n0 o0 ns0 a0 b0 c0 k1 s1 n1 o1 ns1 a1 b1 c1 k2 s2 n2 o2 ns2 a2 b2 c2 := rfl
  unfold shapeB wholeB
  rw [e]
  unfold three
  rw [shape_cons, shape_cons, shape_cons, whole_cons, whole_cons, whole_cons, h0.1, h0.2, h1.1, h1.2, h2.1, h2.2]
  rfl
theorem right_lam1 {y : List UInt8} {k : Int} {s : List UInt8} {n op : Int} {ns : List (List UInt8)} {a b c : Fx} (h : rightB k s n op ns a b c = true) : rightB 3 [] 0 0 [y] (.cons .no k s n op ns a b c .nil) .nil .nil = true := by
  unfold rightB at h ⊢
  simp only [Bool.and_eq_true] at h
  have e : (parts (.cons .no k s n op ns a b c .nil) .nil .nil).bare = .cons .no k s n op ns a b c .nil := rfl
  unfold shapeB wholeB
  rw [e, shape_cons, whole_cons, h.1, h.2]
  rfl
end Go.Proofs.Ytkdpojmbahjdjaa
