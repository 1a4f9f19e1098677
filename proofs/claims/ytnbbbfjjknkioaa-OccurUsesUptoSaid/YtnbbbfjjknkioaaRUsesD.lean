/- The contract of the reference's Uses. A bound on how many expressions there are. -/
import Derived.Test.YtnbbbfjjknkioaaUseR
import Derived.Test.YtnbbbfjjknkioaaHas
import Derived.Test.YtnbbbfjjknkioaaExOp
namespace Go.Proofs.Ytnbbbfjjknkioaa
open Go.RowKit Ex0
attribute [local go_sem] bt_size bt_list bt_toList

theorem nsWt_le (ns : List (List UInt8)) : ns.length ≤ nsWt ns := by
  unfold nsWt
  induction ns with
  | nil => exact Nat.le_refl _
  | cons s l ih => simp only [List.length_cons, List.map_cons, List.sum_cons]; omega
theorem bare_wt (f : Fx) : f.bare.wt ≤ f.wt := by
  induction f with
  | nil => exact Nat.le_refl _
  | cons p k s n op ns a b c r _ _ _ ih => simp only [Fx.bare, Fx.wt, Pre.wt]; omega
theorem sel_wt (q : Pre → Bool) (f : Fx) : (f.sel q).wt ≤ f.wt := by
  induction f with
  | nil => exact Nat.le_refl _
  | cons p k s n op ns a b c r _ _ _ ih =>
    simp only [Fx.sel, Fx.wt]
    split
    · simp only [Fx.wt]; omega
    · omega
/-- What has been gathered of an expression's parts. -/
def DN (x : List UInt8) (k : Int) (s : List UInt8) (a b p : Fx) : Fx := (a.app b).app (p.sel (altSees x k s))
theorem ex_news2 (w : World) (o : Obj) (k : Int) (s : List UInt8) (n op : Int) (vn va vb vc : Value) : ∀ j u, [Value.int .i64 k, .string (bt s), .int .i64 n, .int .i64 op, vn, va, vb, vc][j]? = some u → ((w.alloc o).alloc (exBox k s n op vn va vb vc)).cell? ((⟨w.heap.size + 1, 0, none⟩ : Addr).add j) = some u := by
  have h : ((w.alloc o).alloc (exBox k s n op vn va vb vc)).heap[w.heap.size + 1]? = some (.cells #[.int .i64 k, .string (bt s), .int .i64 n, .int .i64 op, vn, va, vb, vc] 27 (0, 0)) := by
    have e : w.heap.size + 1 = (w.heap.push o).size := by simp
    show ((w.heap.push o).push _)[w.heap.size + 1]? = _
    rw [e, Array.getElem?_push_size]
    rfl
  exact World.news_of_block h

/-- What the reference's Uses answers for expressions with fewer parts than n. -/
def RUsesC (n : Nat) : Prop := ∀ (k : Int) (s : List UInt8) (nn op : Int) (vn va vb vc : Value) (ns : List (List UInt8)) (a b c : Fx) (x : List UInt8) (w : World), (parts a b c).count < n → a.wt + b.wt + c.wt + nsWt ns ≤ 1048576 → ExV (Old w.heap.size) w vn va vb vc ns a b c →
    Calls Try.prog 8 #[exV k s nn op vn va vb vc, .string (bt x)] w fun e w' => e = .returned (.tuple #[.int .i64 (usesE x k s ns a b c).1, .bool (usesE x k s ns a b c).2]) ∧ Below w.heap.size w w'
end Go.Proofs.Ytnbbbfjjknkioaa
