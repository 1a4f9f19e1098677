/- What the reference's shape answers. No condition. -/
import Derived.Test.YtkdpojmbahjdjaaWhole
namespace Go.Proofs.Ytkdpojmbahjdjaa
open Go.RowKit Ex0

def nameB (k : Int) : Bool := (k == 1) || (k == 6) || (k == 7)
def subsB (k : Int) : Bool := (k == 4) || (k == 7) || (k == 8)
def oneB (k : Int) : Bool := (k == 3) || (k == 5) || (k == 6)
/-- Has an expression what does not belong to it? -/
def bad1 (k : Int) (s : List UInt8) (n op : Int) (ns : List (List UInt8)) (lb lc : Nat) : Bool :=
  decide (k < 1) || decide (8 < k) || (!nameB k && !s.isEmpty) || (k != 2 && n != 0) || (k != 8 && op != 0) || (k != 3 && !ns.isEmpty) || (k != 5 && decide (0 < lb)) || (k != 6 && decide (0 < lc))
def bad2 (k op : Int) (la : Nat) : Bool := (oneB k && (la != 1)) || (!oneB k && !subsB k && decide (0 < la)) || ((k == 8) && decide (argsN op < 0))
def altOk : Pre → Bool
  | .alt k s n ns => !(decide (k < 1) || decide (3 < k) || (k != 1 && (!s.isEmpty || !ns.isEmpty)) || (k != 2 && n != 0))
  | _ => true
def altsOk : Fx → Bool
  | .nil => true
  | .cons p _ _ _ _ _ _ _ _ r => altOk p && altsOk r
theorem alts_app (f g : Fx) : altsOk (f.app g) = (altsOk f && altsOk g) := by
  induction f with
  | nil => rfl
  | cons p k s n op ns a b c r _ _ _ ih => simp only [Fx.app, altsOk, ih, Bool.and_assoc]
def ownB (k : Int) (s : List UInt8) (n op : Int) (ns : List (List UInt8)) (la lb : Nat) (c : Fx) : Bool := !bad1 k s n op ns lb c.len && !bad2 k op la && altsOk c
def Fxshape : Fx → Bool
  | .nil => true
  | .cons _ k s n op ns a b c r => (ownB k s n op ns a.len b.len c && (Fxshape a && (Fxshape b && Fxshape c))) && Fxshape r
theorem shape_app (f g : Fx) : Fxshape (f.app g) = (Fxshape f && Fxshape g) := by
  induction f with
  | nil => rfl
  | cons p k s n op ns a b c r _ _ _ ih => simp only [Fx.app, Fxshape, ih, Bool.and_assoc]
theorem shape_bare (f : Fx) : Fxshape f.bare = Fxshape f := by
  induction f with
  | nil => rfl
  | cons p k s n op ns a b c r _ _ _ ih => simp only [Fx.bare, Fxshape, ih]
def shapeB (k : Int) (s : List UInt8) (n op : Int) (ns : List (List UInt8)) (a b c : Fx) : Bool := ownB k s n op ns a.len b.len c && Fxshape (parts a b c).bare
theorem shape_cons (p : Pre) (k : Int) (s : List UInt8) (n op : Int) (ns : List (List UInt8)) (a b c r : Fx) : Fxshape (.cons p k s n op ns a b c r) = (shapeB k s n op ns a b c && Fxshape r) := by
  unfold shapeB parts
  rw [shape_bare, shape_app, shape_app]
  rfl
/-- What shape answers for expressions with fewer parts than n. -/
def ShapeC (n : Nat) : Prop := ∀ (k : Int) (s : List UInt8) (nn op : Int) (vn va vb vc : Value) (ns : List (List UInt8)) (a b c : Fx) (w : World), (parts a b c).count < n → (parts a b c).count ≤ 1048576 →
    ExV (Old w.heap.size) w vn va vb vc ns a b c → Calls Try.prog 17 #[exV k s nn op vn va vb vc] w fun e w' => e = .returned (.bool (shapeB k s nn op ns a b c)) ∧ Below w.heap.size w w'
end Go.Proofs.Ytkdpojmbahjdjaa
