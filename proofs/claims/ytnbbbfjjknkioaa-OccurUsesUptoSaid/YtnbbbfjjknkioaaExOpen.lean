/- Arguments that are expressions, or three of them, are opened. No condition. -/
import Derived.Test.YtnbbbfjjknkioaaRows
import Derived.Test.YtnbbbfjjknkioaaExOp
import Derived.Test.YtnbbbfjjknkioaaExA
namespace Go.Proofs.Ytnbbbfjjknkioaa
open Go.ChangeShapes Go.WideShapes Go.ChangeAt Go.RowKit Go.Deep Ex0

theorem own : ownKnob Try.prog.godebug = none := by kernel_rfl
theorem laidOut : laidOutB Try.prog = true := by kernel_rfl
noncomputable def exFs : Array Field := (Try.prog.underlying 27).elim #[] fun | .struct fs => fs | _ => #[]
noncomputable def bdFs : Array Field := (Try.prog.underlying 40).elim #[] fun | .struct fs => fs | _ => #[]
noncomputable def alFs : Array Field := (Try.prog.underlying 51).elim #[] fun | .struct fs => fs | _ => #[]
theorem exProg : ExProg Try.prog 27 40 51 9 22 23 24 25 exFs bdFs alFs :=
  ⟨by kernel_rfl, by kernel_rfl, by kernel_rfl, by kernel_rfl, by kernel_rfl, by kernel_rfl, by kernel_rfl, by kernel_rfl, by kernel_rfl, by kernel_rfl, by kernel_rfl, by kernel_rfl, by kernel_rfl, by kernel_rfl, by kernel_rfl, by kernel_rfl,
   by kernel_rfl, by kernel_rfl, by kernel_rfl, by kernel_rfl, by kernel_rfl, by kernel_rfl, by kernel_rfl, by kernel_rfl, by kernel_rfl, by kernel_rfl, by kernel_rfl, by kernel_rfl, by kernel_rfl, by kernel_rfl⟩

theorem bulkAll_sum {H : Type} (l : List (DataW H)) : (l.map Rows.uptoBulk).sum = Rows.uptoBulkAll l := by
  induction l with
  | nil => rfl
  | cons x r ih => simp only [List.map_cons, List.sum_cons, Rows.uptoBulkAll, ih]
theorem bulk_pos {H : Type} (d : DataW H) : 1 ≤ Rows.uptoBulk d := by
  cases d with
  | lit l => cases l <;> simp [Rows.uptoBulk]
  | nil => simp [Rows.uptoBulk]
  | ptr d => simp [Rows.uptoBulk]
  | slice elems spare => simp [Rows.uptoBulk]
  | agg parts => simp [Rows.uptoBulk]
  | iface t d => simp [Rows.uptoBulk]
  | map entries => simp [Rows.uptoBulk]
  | held h => simp [Rows.uptoBulk]
theorem bulk_is {H : Type} : Bulk (Rows.uptoBulk (H := H)) :=
  ⟨fun l => by rw [bulkAll_sum]; simp [Rows.uptoBulk], fun l r => by rw [bulkAll_sum]; simp only [Rows.uptoBulk]; omega, fun l => by simp [Rows.uptoBulk], bulk_pos⟩

section
variable {H : Type} {enc : TypeId × Value → H} {W : World} {base : Nat}
set_option maxRecDepth 100000 in
/-- An expression. -/
theorem open_ex {v : Value} {d : DataW H} {p : List MemPlace} (hv : Value.okWide Try.prog W .any base 27 v) (h : DataW.Trod enc Try.prog W 0 (fun _ => true) true 27 v d p) :
    ∃ (k : Int) (s : List UInt8) (n op : Int) (vn va vb vc : Value) (ns : List (List UInt8)) (a b c : Fx), v = exV k s n op vn va vb vc ∧ ExV (Old W.heap.size) W vn va vb vc ns a b c ∧ 8 * (parts a b c).count + 8 ≤ Rows.uptoBulk d ∧ a.wt + b.wt + c.wt + nsWt ns + 8 ≤ Rows.uptoBulk d := by
  obtain ⟨cs, rfl, _⟩ := okWide_struct exProg.under hv
  obtain ⟨fuel, hf⟩ := h
  obtain ⟨k, s, n, op, vn, va, vb, vc, ns, a, b, c, e, hx, hw⟩ := ex_trod bulk_is exProg _ _ _ hf
  refine ⟨k, s, n, op, vn, va, vb, vc, ns, a, b, c, ?_, hx, ?_⟩
  · obtain ⟨l⟩ := cs
    simp only [Value.cells] at e
    unfold exV
    rw [e]
  · have h1 := a.count_wt
    have h2 := b.count_wt
    have h3 := c.count_wt
    dsimp only at hw
    rw [parts_count]
    exact ⟨by omega, by omega⟩
set_option maxRecDepth 100000 in
/-- Three expressions. -/
theorem open_ex3 {v : Value} {d : DataW H} {p : List MemPlace} (under3 : Try.prog.underlying 33 = some (.array 3 27)) (cells3 : Try.prog.cellsOf 33 = 24) (hv : Value.okWide Try.prog W .any base 33 v)
    (h : DataW.Trod enc Try.prog W 0 (fun _ => true) true 33 v d p) :
    ∃ (k0 : Int) (s0 : List UInt8) (n0 o0 : Int) (vn0 va0 vb0 vc0 : Value) (ns0 : List (List UInt8)) (a0 b0 c0 : Fx) (k1 : Int) (s1 : List UInt8) (n1 o1 : Int) (vn1 va1 vb1 vc1 : Value) (ns1 : List (List UInt8)) (a1 b1 c1 : Fx) (k2 : Int) (s2 : List UInt8) (n2 o2 : Int) (vn2 va2 vb2 vc2 : Value) (ns2 : List (List UInt8)) (a2 b2 c2 : Fx),
      v = .agg #[.int .i64 k0, .string (bt s0), .int .i64 n0, .int .i64 o0, vn0, va0, vb0, vc0, .int .i64 k1, .string (bt s1), .int .i64 n1, .int .i64 o1, vn1, va1, vb1, vc1, .int .i64 k2, .string (bt s2), .int .i64 n2, .int .i64 o2, vn2, va2, vb2, vc2] ∧
      ExV (Old W.heap.size) W vn0 va0 vb0 vc0 ns0 a0 b0 c0 ∧ ExV (Old W.heap.size) W vn1 va1 vb1 vc1 ns1 a1 b1 c1 ∧ ExV (Old W.heap.size) W vn2 va2 vb2 vc2 ns2 a2 b2 c2 ∧
      9 * ((parts a0 b0 c0).count + (parts a1 b1 c1).count + (parts a2 b2 c2).count) + 27 ≤ Rows.uptoBulk d ∧ (a0.wt + b0.wt + c0.wt + nsWt ns0 + 9) + (a1.wt + b1.wt + c1.wt + nsWt ns1 + 9) + (a2.wt + b2.wt + c2.wt + nsWt ns2 + 9) ≤ Rows.uptoBulk d := by
  have hv' : ∃ cs, v = .agg cs ∧ cs.size = Try.prog.cellsOf 33 := by
    simp only [Value.okWide, under3] at hv
    obtain ⟨cs, h1, h2, _⟩ := hv
    exact ⟨cs, h1, h2⟩
  obtain ⟨cs, rfl, hsz⟩ := hv'
  obtain ⟨fuel, hf⟩ := h
  obtain ⟨xs, m, _, hx, hlen, hxl, hg⟩ := DataW.trod_array under3 hf
  have hc : Try.prog.cellsOf 27 = 8 := exProg.cells
  rw [hc] at hg
  rw [cells3] at hsz
  have g0 := hg 0 (by omega)
  have g1 := hg 1 (by omega)
  have g2 := hg 2 (by omega)
  rw [List.getElem?_eq_getElem (by omega)] at g0 g1 g2
  obtain ⟨k0, s0, n0, o0, vn0, va0, vb0, vc0, ns0, a0, b0, c0, e0, hx0, hw0⟩ := ex_trod bulk_is exProg _ _ _ g0
  obtain ⟨k1, s1, n1, o1, vn1, va1, vb1, vc1, ns1, a1, b1, c1, e1, hx1, hw1⟩ := ex_trod bulk_is exProg _ _ _ g1
  obtain ⟨k2, s2, n2, o2, vn2, va2, vb2, vc2, ns2, a2, b2, c2, e2, hx2, hw2⟩ := ex_trod bulk_is exProg _ _ _ g2
  refine ⟨k0, s0, n0, o0, vn0, va0, vb0, vc0, ns0, a0, b0, c0, k1, s1, n1, o1, vn1, va1, vb1, vc1, ns1, a1, b1, c1, k2, s2, n2, o2, vn2, va2, vb2, vc2, ns2, a2, b2, c2, ?_, hx0, hx1, hx2, ?_⟩
  · obtain ⟨l⟩ := cs
    have hl : l.length = 24 := hsz
    simp only [Value.cells] at e0 e1 e2
    match l, hl, e0, e1, e2 with
    | [x0, x1, x2, x3, x4, x5, x6, x7, y0, y1, y2, y3, y4, y5, y6, y7, z0, z1, z2, z3, z4, z5, z6, z7], _, e0, e1, e2 =>
      simp at e0 e1 e2
      obtain ⟨rfl, rfl, rfl, rfl, rfl, rfl, rfl, rfl⟩ := e0
      obtain ⟨rfl, rfl, rfl, rfl, rfl, rfl, rfl, rfl⟩ := e1
      obtain ⟨rfl, rfl, rfl, rfl, rfl, rfl, rfl, rfl⟩ := e2
      rfl
  · match xs, hxl, hw0, hw1, hw2, hx with
    | [x0, x1, x2], _, hw0, hw1, hw2, hx =>
      simp only [Prod.mk.injEq] at hx
      rw [hx.1]
      simp only [List.map_cons, List.map_nil, Rows.uptoBulk, Rows.uptoBulkAll]
      simp at hw0 hw1 hw2
      have q1 := a0.count_wt9
      have q2 := b0.count_wt9
      have q3 := c0.count_wt9
      have q4 := a1.count_wt9
      have q5 := b1.count_wt9
      have q6 := c1.count_wt9
      have q7 := a2.count_wt9
      have q8 := b2.count_wt9
      have q9 := c2.count_wt9
      rw [parts_count, parts_count, parts_count]
      exact ⟨by omega, by omega⟩
end
end Go.Proofs.Ytnbbbfjjknkioaa
