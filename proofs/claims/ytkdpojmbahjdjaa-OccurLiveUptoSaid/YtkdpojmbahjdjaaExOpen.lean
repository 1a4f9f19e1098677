/- Arguments that are expressions, or three of them, are opened. No condition. -/
import Derived.Test.YtkdpojmbahjdjaaRows
import Derived.Test.YtkdpojmbahjdjaaExOp
import Derived.Test.YtkdpojmbahjdjaaExA
namespace Go.Proofs.Ytkdpojmbahjdjaa
open Go.ChangeShapes Go.WideShapes Go.ChangeAt Go.RowKit Go.Deep Ex0

theorem own : ownKnob Try.prog.godebug = none := by kernel_rfl
theorem laidOut : laidOutB Try.prog = true := by kernel_rfl
noncomputable def exFs : Array Field := (Try.prog.underlying 27).elim #[] fun | .struct fs => fs | _ => #[]
noncomputable def bdFs : Array Field := (Try.prog.underlying 35).elim #[] fun | .struct fs => fs | _ => #[]
noncomputable def alFs : Array Field := (Try.prog.underlying 53).elim #[] fun | .struct fs => fs | _ => #[]
theorem exProg : ExProg Try.prog 27 35 53 9 22 23 24 25 exFs bdFs alFs :=
  ⟨by kernel_rfl, by kernel_rfl, by kernel_rfl, by kernel_rfl, by kernel_rfl, by kernel_rfl, by kernel_rfl, by kernel_rfl, by kernel_rfl, by kernel_rfl, by kernel_rfl, by kernel_rfl, by kernel_rfl, by kernel_rfl, by kernel_rfl, by kernel_rfl,
   by kernel_rfl, by kernel_rfl, by kernel_rfl, by kernel_rfl, by kernel_rfl, by kernel_rfl, by kernel_rfl, by kernel_rfl, by kernel_rfl, by kernel_rfl, by kernel_rfl, by kernel_rfl, by kernel_rfl, by kernel_rfl⟩

theorem bulkAll_sum {H : Type} (l : List (DataW H)) : (l.map Rows.uptoBulk).sum = Rows.uptoBulkAll l := by
  induction l with
  | nil => rfl
  | cons x r ih => simp only [List.map_cons, List.sum_cons, Rows.uptoBulkAll, ih]
theorem bulk_pos {H : Type} (d : DataW H) : 1 ≤ Rows.uptoBulk d := by
  cases d with
  | lit l => cases l <;> simp [Rows.uptoBulk]
  | nil => simp [Rows.uptoBulk]
  | ptr d => simp [Rows.uptoBulk]
  | slice elems spare => simp [Rows.uptoBulk]
  | agg parts => simp [Rows.uptoBulk]
  | iface t d => simp [Rows.uptoBulk]
  | map entries => simp [Rows.uptoBulk]
  | held h => simp [Rows.uptoBulk]
theorem bulk_is {H : Type} : Bulk (Rows.uptoBulk (H := H)) :=
  ⟨fun l => by rw [bulkAll_sum]; simp [Rows.uptoBulk], fun l r => by rw [bulkAll_sum]; simp only [Rows.uptoBulk]; omega, fun l => by simp [Rows.uptoBulk], bulk_pos⟩

section
variable {H : Type} {enc : TypeId × Value → H} {W : World} {base : Nat}
set_option maxRecDepth 100000 in
/-- An expression. -/
theorem open_ex {v : Value} {d : DataW H} {p : List MemPlace} (hv : Value.okWide Try.prog W .any base 27 v) (h : DataW.Trod enc Try.prog W 0 (fun _ => true) true 27 v d p) :
    ∃ (k : Int) (s : List UInt8) (n op : Int) (vn va vb vc : Value) (ns : List (List UInt8)) (a b c : Fx), v = exV k s n op vn va vb vc ∧ ExV (Old W.heap.size) W vn va vb vc ns a b c ∧ 8 * (parts a b c).count + 8 ≤ Rows.uptoBulk d ∧ a.wt + b.wt + c.wt + nsWt ns + 8 ≤ Rows.uptoBulk d := by
  obtain ⟨cs, rfl, _⟩ := okWide_struct exProg.under hv
  obtain ⟨fuel, hf⟩ := h
  obtain ⟨k, s, n, op, vn, va, vb, vc, ns, a, b, c, e, hx, hw⟩ := ex_trod bulk_is exProg _ _ _ hf
  refine ⟨k, s, n, op, vn, va, vb, vc, ns, a, b, c, ?_, hx, ?_⟩
  · obtain ⟨l⟩ := cs
    simp only [Value.cells] at e
    unfold exV
    rw [e]
  · have h1 := a.count_wt
    have h2 := b.count_wt
    have h3 := c.count_wt
    dsimp only at hw
    rw [parts_count]
    exact ⟨by omega, by omega⟩
end
end Go.Proofs.Ytkdpojmbahjdjaa
