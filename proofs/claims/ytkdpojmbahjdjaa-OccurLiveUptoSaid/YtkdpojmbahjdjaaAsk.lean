/- What is asked of package occur, and of the law awake. No condition. -/
import Derived.Test.YtkdpojmbahjdjaaUse
import Derived.Test.YtkdpojmbahjdjaaVis
import Derived.OwnWalk
namespace Go.Proofs.Ytkdpojmbahjdjaa
open Go.RowKit Ex0
attribute [local go_sem] bt_size bt_list bt_toList

/-- Few enough steps and parts for the counter. -/
def fits (ns : List (List UInt8)) (a b c : Fx) : Prop := (parts a b c).count ≤ 131071 ∧ costE ns a b c ≤ 1048576
/-- What is asked of package occur: how often a name stands in an expression, and where. -/
def UsesC : Prop := ∀ (k : Int) (s : List UInt8) (nn op : Int) (vn va vb vc : Value) (ns : List (List UInt8)) (a b c : Fx) (x : List UInt8) (w : World), fits ns a b c → x.length ≤ 1048576 → rightB k s nn op ns a b c = true → ExV (Old w.heap.size) w vn va vb vc ns a b c →
    Calls Try.prog 11 #[exV k s nn op vn va vb vc, .string (bt x)] w fun e w' => e = .returned (.tuple #[.int .i64 (usesE x k s ns a b c).1, .bool (usesE x k s ns a b c).2]) ∧ Below w.heap.size w w'
def OnceC : Prop := ∀ (k : Int) (s : List UInt8) (nn op : Int) (vn va vb vc : Value) (ns : List (List UInt8)) (a b c : Fx) (x : List UInt8) (w : World), fits ns a b c → x.length ≤ 1048576 → rightB k s nn op ns a b c = true → ExV (Old w.heap.size) w vn va vb vc ns a b c →
    Calls Try.prog 12 #[exV k s nn op vn va vb vc, .string (bt x)] w fun e w' => e = .returned (.bool ((((usesE x k s ns a b c).1 : Int) == 1) && !(usesE x k s ns a b c).2)) ∧ Below w.heap.size w w'
def AwakeC : Prop := ∀ (w : World), Calls Try.prog 6 #[] w fun e w' => e = .returned (.bool true) ∧ Below w.heap.size w w'
end Go.Proofs.Ytkdpojmbahjdjaa
