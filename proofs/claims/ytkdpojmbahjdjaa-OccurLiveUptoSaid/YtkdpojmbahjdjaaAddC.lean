/- The contract of the counter's add. No condition but a bound on the sum. -/
import Derived.Test.YtkdpojmbahjdjaaCtr
namespace Go.Proofs.Ytkdpojmbahjdjaa
open Go.RowKit Ex0

/-- In a block lies how often, and whether within a Lam. -/
def AllAt (w : World) (ab : Nat) (t : Int) (i : Bool) : Prop := w.heap[ab]? = some (.cells #[.int .i64 t, .bool i] 59 (0, 0))
theorem all_cell {w : World} {ab : Nat} {t : Int} {i : Bool} (h : AllAt w ab t i) : w.cell? ⟨ab, 0, none⟩ = some (.int .i64 t) ∧ w.cell? ⟨ab, 1, none⟩ = some (.bool i) ∧ w.frozen? ⟨ab, 0, none⟩ = false ∧ w.frozen? ⟨ab, 1, none⟩ = false := by
  unfold AllAt at h
  exact ⟨by simp [World.cell?, h], by simp [World.cell?, h], by simp [World.frozen?, h], by simp [World.frozen?, h]⟩
theorem heap_set {w : World} {b o : Nat} {cs : Array Value} {T : TypeId} {fr : Nat × Nat} (h : w.heap[b]? = some (.cells cs T fr)) (v : Value) : (w.setCell ⟨b, o, none⟩ v).heap[b]? = some (.cells (cs.setIfInBounds o v) T fr) := by
  obtain ⟨hlt, he⟩ := Array.getElem?_eq_some_iff.1 h
  show (w.heap.modify b _)[b]? = _
  rw [Array.getElem?_eq_getElem (by rw [Array.size_modify]; exact hlt), Array.getElem_modify_self, he]
  rfl
theorem all_set0 {w : World} {ab : Nat} {t : Int} {i : Bool} (h : AllAt w ab t i) (t' : Int) : AllAt (w.setCell ⟨ab, 0, none⟩ (.int .i64 t')) ab t' i := (heap_set h _).trans rfl
theorem all_set1 {w : World} {ab : Nat} {t : Int} {i : Bool} (h : AllAt w ab t i) (i' : Bool) : AllAt (w.setCell ⟨ab, 1, none⟩ (.bool i')) ab t i' := (heap_set h _).trans rfl
theorem all_alloc {w : World} {ab : Nat} {t : Int} {i : Bool} (h : AllAt w ab t i) (o : Obj) : AllAt (w.alloc o) ab t i := (Below.heap_alloc w o ab (Array.getElem?_eq_some_iff.1 h).1).trans h
theorem all_new (w : World) : AllAt (w.alloc (.cells #[.int .i64 0, .bool false] 59)) w.heap.size 0 false := World.alloc_heap_new w _

set_option maxHeartbeats 1000000 in
theorem add_any (ab : Nat) (t t2 : Int) (i i2 : Bool) (w : World) (h : AllAt w ab t i) (ht : 0 ≤ t ∧ t ≤ 1048576) (ht2 : 0 ≤ t2 ∧ t2 ≤ 1048576) :
    Calls Try.prog 28 #[.pointer (some ⟨ab, 0, none⟩), .agg #[.int .i64 t2, .bool i2]] w fun e w' => (∃ v, e = .returned v) ∧ AllAt w' ab (t + t2) (i || i2) ∧ Ct ab w w' := by
  have hlt := (Array.getElem?_eq_some_iff.1 h).1
  have h1 : AllAt (w.alloc (.cells #[.int .i64 t2, .bool i2] 59)) ab t i := all_alloc h _
  have h2 := all_set0 h1 (t + t2)
  have h3 := all_set1 h2 (i || i2)
  obtain ⟨c0, c1, f0, f1⟩ := all_cell h1
  obtain ⟨d0, d1, g0, g1⟩ := all_cell h2
  have HC := Lib.hid (((Ct.alloc ab w (.cells #[.int .i64 t2, .bool i2] 59)).set (b := ab) (o := 0) (.inl rfl) (.int .i64 (t + t2))).set (b := ab) (o := 1) (.inl rfl) (.bool (i || i2)))
  have HA := Lib.hid h3
  have q1 : decide (t > 9223372036854775807 - t2) = false := decide_eq_false (by omega)
  have q2 : decide (9223372036854775807 - t2 < t) = false := decide_eq_false (by omega)
  obtain ⟨ht0, ht1⟩ := ht
  obtain ⟨hu0, hu1⟩ := ht2
  clear h h1 h2 h3
  cases i
  all_goals
   simp only [Bool.true_or, Bool.false_or] at HA HC
   go_enter Try.func28, Try.ntmps28
   go_wp2_with fail
   go_quiet (fail)
   go_wp2_with fail
   go_region
   all_goals go_wp2_with fail
   all_goals go_end0
   all_goals exact ⟨⟨_, rfl⟩, HA.out, HC.out.same rfl rfl rfl rfl⟩
end Go.Proofs.Ytkdpojmbahjdjaa
