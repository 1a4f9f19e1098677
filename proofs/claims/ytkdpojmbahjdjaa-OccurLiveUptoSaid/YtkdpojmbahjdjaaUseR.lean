/- How often a name stands in an expression, part by part. No condition. -/
import Derived.Test.YtkdpojmbahjdjaaUse
namespace Go.Proofs.Ytkdpojmbahjdjaa.Ex0
open Go Go.RowKit

/-- Some of a row. -/
def Fx.sel (q : Pre → Bool) : Fx → Fx
  | .nil => .nil
  | .cons p k s n op ns a b c r => if q p then .cons p k s n op ns a b c (r.sel q) else r.sel q
theorem sel_app (q : Pre → Bool) (f g : Fx) : (f.app g).sel q = (f.sel q).app (g.sel q) := by
  induction f with
  | nil => rfl
  | cons p k s n op ns a b c r _ _ _ ih =>
    simp only [Fx.app, Fx.sel]
    split
    · simp only [Fx.app, ih]
    · exact ih
theorem sel_count (q : Pre → Bool) (f : Fx) : (f.sel q).count ≤ f.count := by
  induction f with
  | nil => exact Nat.le_refl _
  | cons p k s n op ns a b c r _ _ _ ih =>
    simp only [Fx.sel, Fx.count]
    split
    · simp only [Fx.count]; omega
    · omega
theorem sel_len (q : Pre → Bool) (f : Fx) : (f.sel q).len ≤ f.len := by
  induction f with
  | nil => exact Nat.le_refl _
  | cons p k s n op ns a b c r _ _ _ ih =>
    simp only [Fx.sel, Fx.len]
    split
    · simp only [Fx.len]; omega
    · omega
def sumU (x : List UInt8) : Fx → Nat
  | .nil => 0
  | .cons _ k s _ _ ns a b c r => (usesE x k s ns a b c).1 + sumU x r
def anyU (x : List UInt8) (lam : Bool) : Fx → Bool
  | .nil => false
  | .cons _ k s _ _ ns a b c r => ((usesE x k s ns a b c).2 || (decide (0 < (usesE x k s ns a b c).1) && lam)) || anyU x lam r
theorem sumU_app (x : List UInt8) (f g : Fx) : sumU x (f.app g) = sumU x f + sumU x g := by
  induction f with
  | nil => simp [Fx.app, sumU]
  | cons p k s n op ns a b c r _ _ _ ih => simp only [Fx.app, sumU, ih]; omega
theorem anyU_app (x : List UInt8) (lam : Bool) (f g : Fx) : anyU x lam (f.app g) = (anyU x lam f || anyU x lam g) := by
  induction f with
  | nil => simp [Fx.app, anyU]
  | cons p k s n op ns a b c r _ _ _ ih => simp only [Fx.app, anyU, ih, Bool.or_assoc]
theorem sumU_bare (x : List UInt8) (f : Fx) : sumU x f.bare = sumU x f := by
  induction f with
  | nil => rfl
  | cons p k s n op ns a b c r _ _ _ ih => simp only [Fx.bare, sumU, ih]
theorem anyU_bare (x : List UInt8) (lam : Bool) (f : Fx) : anyU x lam f.bare = anyU x lam f := by
  induction f with
  | nil => rfl
  | cons p k s n op ns a b c r _ _ _ ih => simp only [Fx.bare, anyU, ih]
theorem sumU_uses (x : List UInt8) (f : Fx) : ((f.uses x).map fun t => t.2.1).sum = sumU x f := by
  induction f with
  | nil => rfl
  | cons p k s n op ns a b c r _ _ _ ih => simp only [Fx.uses, List.map_cons, List.sum_cons, sumU, ih]; rfl
theorem anyU_uses (x : List UInt8) (lam : Bool) (f : Fx) : ((f.uses x).any fun t => t.2.2 || (decide (0 < t.2.1) && lam)) = anyU x lam f := by
  induction f with
  | nil => rfl
  | cons p k s n op ns a b c r _ _ _ ih => simp only [Fx.uses, List.any_cons, anyU, ih]; rfl
theorem uses_sel (x : List UInt8) (q : Pre → Bool) (f : Fx) : (f.sel q).uses x = (f.uses x).filter fun t => q t.1 := by
  induction f with
  | nil => rfl
  | cons p k s n op ns a b c r _ _ _ ih =>
    simp only [Fx.sel, Fx.uses, List.filter_cons]
    split
    · simp only [Fx.uses, ih]
    · exact ih
theorem sumU_le (x : List UInt8) (f : Fx) : sumU x f ≤ f.count := by rw [← sumU_uses]; exact uses_le x f
/-- Is a name bound in a row of binds? -/
def bindsX (x : List UInt8) : Fx → Bool
  | .nil => false
  | .cons p _ _ _ _ _ _ _ _ r => decide (p = .bind x) || bindsX x r
theorem bindsX_app (x : List UInt8) (f g : Fx) : bindsX x (f.app g) = (bindsX x f || bindsX x g) := by
  induction f with
  | nil => simp [Fx.app, bindsX]
  | cons p k s n op ns a b c r _ _ _ ih => simp only [Fx.app, bindsX, ih, Bool.or_assoc]
theorem bindsX_uses (x : List UInt8) (f : Fx) : ((f.uses x).any fun t => decide (t.1 = .bind x)) = bindsX x f := by
  induction f with
  | nil => rfl
  | cons p k s n op ns a b c r _ _ _ ih => simp only [Fx.uses, List.any_cons, bindsX, ih]
/-- What is gone through. -/
def open' (x : List UInt8) (k : Int) (s : List UInt8) (a b c : Fx) : Fx := (a.app (b.app (c.sel (altSees x k s)))).bare
theorem usesE_open {x : List UInt8} {k : Int} {s : List UInt8} {ns : List (List UInt8)} {a b c : Fx} (h1 : (k == 1) = false) (h3 : ((k == 3) && decide (x ∈ ns)) = false) (h5 : ((k == 5) && bindsX x b) = false) :
    usesE x k s ns a b c = (sumU x (open' x k s a b c), anyU x (k == 3) (open' x k s a b c)) := by
  unfold usesE usesOf open'
  rw [bindsX_uses, if_neg (by rw [h1]; simp), if_neg (by rw [h3]; simp), if_neg (by rw [h5]; simp), sumU_bare, anyU_bare, sumU_app, sumU_app, anyU_app, anyU_app, ← sumU_uses, ← sumU_uses, ← sumU_uses, ← anyU_uses, ← anyU_uses, ← anyU_uses, uses_sel]
  simp only [List.map_append, List.sum_append, List.any_append]
theorem usesE_var {x : List UInt8} {k : Int} {s : List UInt8} {ns : List (List UInt8)} {a b c : Fx} (h1 : (k == 1) = true) : usesE x k s ns a b c = (if s = x then 1 else 0, false) := by
  unfold usesE usesOf
  rw [if_pos (by rw [h1])]
theorem usesE_lam {x : List UInt8} {k : Int} {s : List UInt8} {ns : List (List UInt8)} {a b c : Fx} (h1 : (k == 1) = false) (h3 : (k == 3) = true) (h : x ∈ ns) : usesE x k s ns a b c = (0, false) := by
  unfold usesE usesOf
  rw [if_neg (by rw [h1]; simp), if_pos (by rw [h3]; simpa using h)]
theorem usesE_let {x : List UInt8} {k : Int} {s : List UInt8} {ns : List (List UInt8)} {a b c : Fx} (h1 : (k == 1) = false) (h3 : (k == 3) = false) (h5 : (k == 5) = true) (h : bindsX x b = true) : usesE x k s ns a b c = (0, false) := by
  unfold usesE usesOf
  rw [bindsX_uses, if_neg (by rw [h1]; simp), if_neg (by rw [h3]; simp), if_pos (by rw [h5, h]; rfl)]
end Go.Proofs.Ytkdpojmbahjdjaa.Ex0
