/- OccurAdds returns true for three expressions and a name, given what package occur and awake answer. A bound on how many expressions there are. -/
import Derived.Test.YtnbbbfjjknkioaaUse
import Derived.Test.YtnbbbfjjknkioaaVis
import Derived.OwnWalk
namespace Go.Proofs.Ytnbbbfjjknkioaa
open Go.RowKit Ex0
attribute [local go_sem] bt_size bt_list bt_toList

/-- Few enough steps and parts for the counter. -/
def fits (ns : List (List UInt8)) (a b c : Fx) : Prop := (parts a b c).count ≤ 131071 ∧ costE ns a b c ≤ 1048576
/-- What is asked of package occur: how often a name stands in an expression, and where. -/
def UsesC : Prop := ∀ (k : Int) (s : List UInt8) (nn op : Int) (vn va vb vc : Value) (ns : List (List UInt8)) (a b c : Fx) (x : List UInt8) (w : World), fits ns a b c → x.length ≤ 1048576 → rightB k s nn op ns a b c = true → ExV (Old w.heap.size) w vn va vb vc ns a b c →
    Calls Try.prog 7 #[exV k s nn op vn va vb vc, .string (bt x)] w fun e w' => e = .returned (.tuple #[.int .i64 (usesE x k s ns a b c).1, .bool (usesE x k s ns a b c).2]) ∧ Below w.heap.size w w'
def OnceC : Prop := ∀ (k : Int) (s : List UInt8) (nn op : Int) (vn va vb vc : Value) (ns : List (List UInt8)) (a b c : Fx) (x : List UInt8) (w : World), fits ns a b c → x.length ≤ 1048576 → rightB k s nn op ns a b c = true → ExV (Old w.heap.size) w vn va vb vc ns a b c →
    Calls Try.prog 9 #[exV k s nn op vn va vb vc, .string (bt x)] w fun e w' => e = .returned (.bool ((((usesE x k s ns a b c).1 : Int) == 1) && !(usesE x k s ns a b c).2)) ∧ Below w.heap.size w w'
def AwakeC : Prop := ∀ (w : World), Calls Try.prog 6 #[] w fun e w' => e = .returned (.bool true) ∧ Below w.heap.size w w'

/-- Three expressions' box. -/
def box3 (k0 : Int) (s0 : List UInt8) (n0 o0 : Int) (vn0 va0 vb0 vc0 : Value) (k1 : Int) (s1 : List UInt8) (n1 o1 : Int) (vn1 va1 vb1 vc1 : Value) (k2 : Int) (s2 : List UInt8) (n2 o2 : Int) (vn2 va2 vb2 vc2 : Value) : Obj := .cells #[.int .i64 k0, .string (bt s0), .int .i64 n0, .int .i64 o0, vn0, va0, vb0, vc0, .int .i64 k1, .string (bt s1), .int .i64 n1, .int .i64 o1, vn1, va1, vb1, vc1, .int .i64 k2, .string (bt s2), .int .i64 n2, .int .i64 o2, vn2, va2, vb2, vc2] 33
theorem box3_cell {B : Nat} {w wr : World} {k0 : Int} {s0 : List UInt8} {n0 o0 : Int} {vn0 va0 vb0 vc0 : Value} {k1 : Int} {s1 : List UInt8} {n1 o1 : Int} {vn1 va1 vb1 vc1 : Value} {k2 : Int} {s2 : List UInt8} {n2 o2 : Int} {vn2 va2 vb2 vc2 : Value} (hB : w.heap.size < B) (hb : Below B (w.alloc (box3 k0 s0 n0 o0 vn0 va0 vb0 vc0 k1 s1 n1 o1 vn1 va1 vb1 vc1 k2 s2 n2 o2 vn2 va2 vb2 vc2)) wr) :
    wr.cell? ⟨w.heap.size, 0, none⟩ = some (.int .i64 k0) ∧ wr.cell? ⟨w.heap.size, 1, none⟩ = some (.string (bt s0)) ∧ wr.cell? ⟨w.heap.size, 2, none⟩ = some (.int .i64 n0) ∧ wr.cell? ⟨w.heap.size, 3, none⟩ = some (.int .i64 o0) ∧ wr.cell? ⟨w.heap.size, 4, none⟩ = some (vn0) ∧ wr.cell? ⟨w.heap.size, 5, none⟩ = some (va0) ∧ wr.cell? ⟨w.heap.size, 6, none⟩ = some (vb0) ∧ wr.cell? ⟨w.heap.size, 7, none⟩ = some (vc0) ∧ wr.cell? ⟨w.heap.size, 8, none⟩ = some (.int .i64 k1) ∧ wr.cell? ⟨w.heap.size, 9, none⟩ = some (.string (bt s1)) ∧ wr.cell? ⟨w.heap.size, 10, none⟩ = some (.int .i64 n1) ∧ wr.cell? ⟨w.heap.size, 11, none⟩ = some (.int .i64 o1) ∧ wr.cell? ⟨w.heap.size, 12, none⟩ = some (vn1) ∧ wr.cell? ⟨w.heap.size, 13, none⟩ = some (va1) ∧ wr.cell? ⟨w.heap.size, 14, none⟩ = some (vb1) ∧ wr.cell? ⟨w.heap.size, 15, none⟩ = some (vc1) ∧ wr.cell? ⟨w.heap.size, 16, none⟩ = some (.int .i64 k2) ∧ wr.cell? ⟨w.heap.size, 17, none⟩ = some (.string (bt s2)) ∧ wr.cell? ⟨w.heap.size, 18, none⟩ = some (.int .i64 n2) ∧ wr.cell? ⟨w.heap.size, 19, none⟩ = some (.int .i64 o2) ∧ wr.cell? ⟨w.heap.size, 20, none⟩ = some (vn2) ∧ wr.cell? ⟨w.heap.size, 21, none⟩ = some (va2) ∧ wr.cell? ⟨w.heap.size, 22, none⟩ = some (vb2) ∧ wr.cell? ⟨w.heap.size, 23, none⟩ = some (vc2) := by
  have h := fun o => hb.cell (p := ⟨w.heap.size, o, none⟩) hB
  unfold box3 at h
  exact ⟨(h 0).trans (by simp [go_sem]), (h 1).trans (by simp [go_sem]), (h 2).trans (by simp [go_sem]), (h 3).trans (by simp [go_sem]), (h 4).trans (by simp [go_sem]), (h 5).trans (by simp [go_sem]), (h 6).trans (by simp [go_sem]), (h 7).trans (by simp [go_sem]), (h 8).trans (by simp [go_sem]), (h 9).trans (by simp [go_sem]), (h 10).trans (by simp [go_sem]), (h 11).trans (by simp [go_sem]), (h 12).trans (by simp [go_sem]), (h 13).trans (by simp [go_sem]), (h 14).trans (by simp [go_sem]), (h 15).trans (by simp [go_sem]), (h 16).trans (by simp [go_sem]), (h 17).trans (by simp [go_sem]), (h 18).trans (by simp [go_sem]), (h 19).trans (by simp [go_sem]), (h 20).trans (by simp [go_sem]), (h 21).trans (by simp [go_sem]), (h 22).trans (by simp [go_sem]), (h 23).trans (by simp [go_sem])⟩

theorem three_cost (k0 : Int) (s0 : List UInt8) (n0 o0 : Int) (ns0 : List (List UInt8)) (a0 b0 c0 : Fx) (k1 : Int) (s1 : List UInt8) (n1 o1 : Int) (ns1 : List (List UInt8)) (a1 b1 c1 : Fx) (k2 : Int) (s2 : List UInt8) (n2 o2 : Int) (ns2 : List (List UInt8)) (a2 b2 c2 : Fx) : costE [] (three k0 s0 n0 o0 ns0 a0 b0 c0 k1 s1 n1 o1 ns1 a1 b1 c1 k2 s2 n2 o2 ns2 a2 b2 c2) .nil .nil = 1 + (costE ns0 a0 b0 c0 + costE ns1 a1 b1 c1 + costE ns2 a2 b2 c2) := by
  unfold three costE
  simp only [Fx.cost, Pre.cost, Fx.len, List.length_nil]
  omega
theorem lam_cost (y : List UInt8) (t : Fx) : costE [y] (.cons .no 4 [] 0 0 [] t .nil .nil .nil) .nil .nil = 2 + costE [] t .nil .nil := by
  unfold costE
  simp only [Fx.cost, Pre.cost, Fx.len, List.length_nil, List.length_cons]
  omega
theorem three_count (k0 : Int) (s0 : List UInt8) (n0 o0 : Int) (ns0 : List (List UInt8)) (a0 b0 c0 : Fx) (k1 : Int) (s1 : List UInt8) (n1 o1 : Int) (ns1 : List (List UInt8)) (a1 b1 c1 : Fx) (k2 : Int) (s2 : List UInt8) (n2 o2 : Int) (ns2 : List (List UInt8)) (a2 b2 c2 : Fx) : (parts (three k0 s0 n0 o0 ns0 a0 b0 c0 k1 s1 n1 o1 ns1 a1 b1 c1 k2 s2 n2 o2 ns2 a2 b2 c2) .nil .nil).count = 3 + ((parts a0 b0 c0).count + (parts a1 b1 c1).count + (parts a2 b2 c2).count) := by
  rw [parts_count, parts_count, parts_count, parts_count]
  simp only [three, Fx.count]
  omega
theorem bt_app (a b : List UInt8) : bt a ++ bt b = bt (a ++ b) := by
  apply ByteArray.ext
  simp [bt]
theorem lam_v {n : Nat} {w5 W : World} {k : Int} {s : List UInt8} {nn op : Int} {vn va vb vc : Value} {ns : List (List UInt8)} {a b c : Fx} {y : List UInt8} {St : TypeId} (hv : ExV (Old n) w5 vn va vb vc ns a b c) (hn : n ≤ w5.heap.size)
    (hW : Below (w5.heap.size + 2) ((w5.alloc (.cells #[.string (bt y)] St)).alloc (exBox k s nn op vn va vb vc)) W) :
    ExV (Old W.heap.size) W (.slice (some ⟨w5.heap.size, 0, none⟩) 1 1) (.slice (some ⟨w5.heap.size + 1, 0, none⟩) 1 1) (.slice none 0 0) (.slice none 0 0) [y] (.cons .no k s nn op ns a b c .nil) .nil .nil := by
  have hlt : w5.heap.size + 1 < W.heap.size := by have := hW.size; simp at this; omega
  have hb : Below w5.heap.size w5 W := (((Below.refl _ _).alloc (Nat.le_refl _) _).alloc (by simp) _).trans (hW.mono (by omega))
  have hrow : FxRow (Old W.heap.size) W (.cons .no k s nn op ns a b c .nil) [.int .i64 k, .string (bt s), .int .i64 nn, .int .i64 op, vn, va, vb, vc] := ⟨_, _, _, _, _, rfl, hv.keep (keep_up hb hn), rfl⟩
  refine ⟨.inr ⟨by simp, w5.heap.size, 0, 1, rfl, by unfold Old; omega, Nat.le_refl _, by simp [maxLen], fun i hi => ?_⟩, .inr ⟨by simp, w5.heap.size + 1, 0, 1, rfl, hlt, Nat.le_refl _, by simp [maxLen], ?_⟩, .inl ⟨rfl, _, _, rfl⟩, .inl ⟨rfl, _, _, rfl⟩⟩
  · have : i = 0 := by simp at hi; omega
    subst this
    exact (hW.cell (p := ⟨w5.heap.size, 0, none⟩) (by simp)).trans (by simp [go_sem])
  · refine hrow.at fun j u hj => ?_
    have h0 : ((w5.alloc (.cells #[.string (bt y)] St)).alloc (exBox k s nn op vn va vb vc)).heap[w5.heap.size + 1]? = some (.cells #[.int .i64 k, .string (bt s), .int .i64 nn, .int .i64 op, vn, va, vb, vc] 27 (0, 0)) := by
      have e : w5.heap.size + 1 = (w5.heap.push (Obj.cells #[.string (bt y)] St)).size := by simp
      show ((w5.heap.push (Obj.cells #[.string (bt y)] St)).push _)[w5.heap.size + 1]? = _
      rw [e, Array.getElem?_push_size]
      rfl
    have h1 := World.news_of_block h0 j u hj
    have hadd : (Addr.mk (w5.heap.size + 1) 0 none).add j = ⟨w5.heap.size + 1, 0 + j, none⟩ := by unfold Addr.add; split <;> simp_all
    rw [hadd] at h1
    exact (hW.cell (p := ⟨w5.heap.size + 1, 0 + j, none⟩) (by simp)).trans h1
theorem three_v {n : Nat} {wr W : World} {k0 : Int} {s0 : List UInt8} {n0 o0 : Int} {vn0 va0 vb0 vc0 : Value} {k1 : Int} {s1 : List UInt8} {n1 o1 : Int} {vn1 va1 vb1 vc1 : Value} {k2 : Int} {s2 : List UInt8} {n2 o2 : Int} {vn2 va2 vb2 vc2 : Value} {ns0 : List (List UInt8)} {a0 b0 c0 : Fx} {ns1 : List (List UInt8)} {a1 b1 c1 : Fx} {ns2 : List (List UInt8)} {a2 b2 c2 : Fx} (hv0 : ExV (Old n) wr vn0 va0 vb0 vc0 ns0 a0 b0 c0) (hv1 : ExV (Old n) wr vn1 va1 vb1 vc1 ns1 a1 b1 c1) (hv2 : ExV (Old n) wr vn2 va2 vb2 vc2 ns2 a2 b2 c2) (hn : n ≤ wr.heap.size)
    (hW : Below (wr.heap.size + 1) (wr.alloc (.cells #[.int .i64 k0, .string (bt s0), .int .i64 n0, .int .i64 o0, vn0, va0, vb0, vc0, .int .i64 k1, .string (bt s1), .int .i64 n1, .int .i64 o1, vn1, va1, vb1, vc1, .int .i64 k2, .string (bt s2), .int .i64 n2, .int .i64 o2, vn2, va2, vb2, vc2] 27)) W) :
    ExV (Old W.heap.size) W (.slice none 0 0) (.slice (some ⟨wr.heap.size, 0, none⟩) 3 3) (.slice none 0 0) (.slice none 0 0) [] (three k0 s0 n0 o0 ns0 a0 b0 c0 k1 s1 n1 o1 ns1 a1 b1 c1 k2 s2 n2 o2 ns2 a2 b2 c2) .nil .nil := by
  have hb : Below wr.heap.size wr W := below_old hW
  have hlt : wr.heap.size < W.heap.size := by have := hW.size; simp at this; omega
  have hk := keep_up hb hn
  have hrow : FxRow (Old W.heap.size) W (three k0 s0 n0 o0 ns0 a0 b0 c0 k1 s1 n1 o1 ns1 a1 b1 c1 k2 s2 n2 o2 ns2 a2 b2 c2) [.int .i64 k0, .string (bt s0), .int .i64 n0, .int .i64 o0, vn0, va0, vb0, vc0, .int .i64 k1, .string (bt s1), .int .i64 n1, .int .i64 o1, vn1, va1, vb1, vc1, .int .i64 k2, .string (bt s2), .int .i64 n2, .int .i64 o2, vn2, va2, vb2, vc2] := ⟨_, _, _, _, _, rfl, hv0.keep hk, _, _, _, _, _, rfl, hv1.keep hk, _, _, _, _, _, rfl, hv2.keep hk, rfl⟩
  refine ⟨.inl ⟨rfl, _, _, rfl⟩, .inr ⟨by simp [three], wr.heap.size, 0, 3, rfl, hlt, Nat.le_refl _, by simp [maxLen], ?_⟩, .inl ⟨rfl, _, _, rfl⟩, .inl ⟨rfl, _, _, rfl⟩⟩
  refine (show ((three k0 s0 n0 o0 ns0 a0 b0 c0 k1 s1 n1 o1 ns1 a1 b1 c1 k2 s2 n2 o2 ns2 a2 b2 c2)).bare = (three k0 s0 n0 o0 ns0 a0 b0 c0 k1 s1 n1 o1 ns1 a1 b1 c1 k2 s2 n2 o2 ns2 a2 b2 c2) from rfl) ▸ hrow.at fun j u hj => ?_
  have h0 : (wr.alloc (.cells #[.int .i64 k0, .string (bt s0), .int .i64 n0, .int .i64 o0, vn0, va0, vb0, vc0, .int .i64 k1, .string (bt s1), .int .i64 n1, .int .i64 o1, vn1, va1, vb1, vc1, .int .i64 k2, .string (bt s2), .int .i64 n2, .int .i64 o2, vn2, va2, vb2, vc2] 27)).heap[wr.heap.size]? = some (.cells #[.int .i64 k0, .string (bt s0), .int .i64 n0, .int .i64 o0, vn0, va0, vb0, vc0, .int .i64 k1, .string (bt s1), .int .i64 n1, .int .i64 o1, vn1, va1, vb1, vc1, .int .i64 k2, .string (bt s2), .int .i64 n2, .int .i64 o2, vn2, va2, vb2, vc2] 27 (0, 0)) := by
    show (wr.heap.push _)[wr.heap.size]? = _
    simp
  have h1 := World.news_of_block h0 j u hj
  have hadd : (Addr.mk wr.heap.size 0 none).add j = ⟨wr.heap.size, 0 + j, none⟩ := by unfold Addr.add; split <;> simp_all
  rw [hadd] at h1
  exact (hW.cell (p := ⟨wr.heap.size, 0 + j, none⟩) (Nat.lt_succ_self _)).trans h1

def sumJ (a b c : Nat) : Nat → Nat
  | 0 => 0
  | 1 => a
  | 2 => a + b
  | _ => a + b + c
def insJ (a b c : Bool) : Nat → Bool
  | 0 => false
  | 1 => a
  | 2 => a || b
  | _ => (a || b) || c
def rgtJ (a b c : Prop) : Nat → Prop
  | 0 => True
  | 1 => a
  | 2 => a ∧ b
  | _ => a ∧ b ∧ c

set_option maxHeartbeats 4000000 in
set_option maxRecDepth 100000 in
theorem adds_any (HU : UsesC) (HO : OnceC) (HA : AwakeC) (k0 : Int) (s0 : List UInt8) (n0 o0 : Int) (vn0 va0 vb0 vc0 : Value) (k1 : Int) (s1 : List UInt8) (n1 o1 : Int) (vn1 va1 vb1 vc1 : Value) (k2 : Int) (s2 : List UInt8) (n2 o2 : Int) (vn2 va2 vb2 vc2 : Value) (ns0 : List (List UInt8)) (a0 b0 c0 : Fx) (ns1 : List (List UInt8)) (a1 b1 c1 : Fx) (ns2 : List (List UInt8)) (a2 b2 c2 : Fx) (x : List UInt8) (w : World) (hcnt : (parts a0 b0 c0).count + (parts a1 b1 c1).count + (parts a2 b2 c2).count ≤ 131000) (hcost : costE ns0 a0 b0 c0 + costE ns1 a1 b1 c1 + costE ns2 a2 b2 c2 ≤ 1048560) (hx : x.length ≤ 1048576)
    (hv0 : ExV (Old w.heap.size) w vn0 va0 vb0 vc0 ns0 a0 b0 c0) (hv1 : ExV (Old w.heap.size) w vn1 va1 vb1 vc1 ns1 a1 b1 c1) (hv2 : ExV (Old w.heap.size) w vn2 va2 vb2 vc2 ns2 a2 b2 c2) :
    Calls Try.prog 4 #[.agg #[.int .i64 k0, .string (bt s0), .int .i64 n0, .int .i64 o0, vn0, va0, vb0, vc0, .int .i64 k1, .string (bt s1), .int .i64 n1, .int .i64 o1, vn1, va1, vb1, vc1, .int .i64 k2, .string (bt s2), .int .i64 n2, .int .i64 o2, vn2, va2, vb2, vc2], .string (bt x)] w fun e w' => e = .returned (.bool true) ∧ Below w.heap.size w w' := by
  obtain ⟨an0, cn0, rfl⟩ := hv0.ns.slice
  obtain ⟨aa0, ca0, rfl⟩ := hv0.a.slice
  obtain ⟨ab0, cb0, rfl⟩ := hv0.b.slice
  obtain ⟨ac0, cc0, rfl⟩ := hv0.c.slice
  have HV0 := Lib.hid hv0
  clear hv0
  obtain ⟨an1, cn1, rfl⟩ := hv1.ns.slice
  obtain ⟨aa1, ca1, rfl⟩ := hv1.a.slice
  obtain ⟨ab1, cb1, rfl⟩ := hv1.b.slice
  obtain ⟨ac1, cc1, rfl⟩ := hv1.c.slice
  have HV1 := Lib.hid hv1
  clear hv1
  obtain ⟨an2, cn2, rfl⟩ := hv2.ns.slice
  obtain ⟨aa2, ca2, rfl⟩ := hv2.a.slice
  obtain ⟨ab2, cb2, rfl⟩ := hv2.b.slice
  obtain ⟨ac2, cc2, rfl⟩ := hv2.c.slice
  have HV2 := Lib.hid hv2
  clear hv2
  have hpc0 : a0.count + b0.count + c0.count = (parts a0 b0 c0).count := by rw [parts_count]; omega
  have hu0 : (usesE x k0 s0 ns0 a0 b0 c0).1 ≤ 1000001 := by have := usesE_le x k0 s0 ns0 a0 b0 c0; omega
  obtain ⟨⟨m0, q0⟩, hU0⟩ : ∃ U, usesE x k0 s0 ns0 a0 b0 c0 = U := ⟨_, rfl⟩
  rw [hU0] at hu0
  have HU0 := Lib.hid hU0
  clear hpc0 hU0
  have hpc1 : a1.count + b1.count + c1.count = (parts a1 b1 c1).count := by rw [parts_count]; omega
  have hu1 : (usesE x k1 s1 ns1 a1 b1 c1).1 ≤ 1000001 := by have := usesE_le x k1 s1 ns1 a1 b1 c1; omega
  obtain ⟨⟨m1, q1⟩, hU1⟩ : ∃ U, usesE x k1 s1 ns1 a1 b1 c1 = U := ⟨_, rfl⟩
  rw [hU1] at hu1
  have HU1 := Lib.hid hU1
  clear hpc1 hU1
  have hpc2 : a2.count + b2.count + c2.count = (parts a2 b2 c2).count := by rw [parts_count]; omega
  have hu2 : (usesE x k2 s2 ns2 a2 b2 c2).1 ≤ 1000001 := by have := usesE_le x k2 s2 ns2 a2 b2 c2; omega
  obtain ⟨⟨m2, q2⟩, hU2⟩ : ∃ U, usesE x k2 s2 ns2 a2 b2 c2 = U := ⟨_, rfl⟩
  rw [hU2] at hu2
  have HU2 := Lib.hid hU2
  clear hpc2 hU2
  dsimp only at hu0 hu1 hu2
  go_enter Try.func4, Try.ntmps4
  go_wp2_with fail
  go_loopw [5, 6, 7] (fun t b i wr => ∃ j : Nat, j ≤ 3 ∧ i = .int .i64 j ∧ t = .int .i64 (sumJ m0 m1 m2 j) ∧ b = .bool (insJ q0 q1 q2 j) ∧ rgtJ (rightB k0 s0 n0 o0 ns0 a0 b0 c0 = true) (rightB k1 s1 n1 o1 ns1 a1 b1 c1 = true) (rightB k2 s2 n2 o2 ns2 a2 b2 c2 = true) j ∧ Below (w.heap.size + 1) (w.alloc (box3 k0 s0 n0 o0 (.slice an0 ns0.length cn0) (.slice aa0 a0.len ca0) (.slice ab0 b0.len cb0) (.slice ac0 c0.len cc0) k1 s1 n1 o1 (.slice an1 ns1.length cn1) (.slice aa1 a1.len ca1) (.slice ab1 b1.len cb1) (.slice ac1 c1.len cc1) k2 s2 n2 o2 (.slice an2 ns2.length cn2) (.slice aa2 a2.len ca2) (.slice ab2 b2.len cb2) (.slice ac2 c2.len cc2))) wr) (fun _ _ i _ => 3 - (intOf i).toNat)
  case atStart => exact ⟨0, by omega, rfl, rfl, rfl, trivial, Below.refl _ _⟩
  case round =>
    obtain ⟨j, hj, rfl, rfl, rfl, hrg, hbel⟩ := hrel
    have HB := Lib.hid hbel
    have HB2 := Lib.hid (below_old hbel)
    have HRG := Lib.hid hrg
    have HW := hbel.size
    simp only [World.size_alloc] at HW
    obtain ⟨e0, e1, e2, e3, e4, e5, e6, e7, e8, e9, e10, e11, e12, e13, e14, e15, e16, e17, e18, e19, e20, e21, e22, e23⟩ := box3_cell (Nat.lt_succ_self _) hbel
    clear hbel hrg
    have hsum : sumJ m0 m1 m2 j ≤ 3000003 := by
      match j, hj with
      | 0, _ => simp only [sumJ]; omega
      | 1, _ => simp only [sumJ]; omega
      | 2, _ => simp only [sumJ]; omega
      | 3, _ => simp only [sumJ]; omega
    match j, hj with
    | 0, _ =>
      simp only [sumJ, insJ] at hsum ⊢
      go_wp2_with fail
      refine (few_any k0 s0 n0 o0 _ _ _ _ ns0 a0 b0 c0 _ (by omega) (HV0.out.keep (keep_up HB2.out (Nat.le_refl _)))).mono ?_
      rintro e w3 ⟨v3, rfl, hr3, hb3⟩
      have HB3 := Lib.hid (show Below (w.heap.size + 1) (w.alloc (box3 k0 s0 n0 o0 (.slice an0 ns0.length cn0) (.slice aa0 a0.len ca0) (.slice ab0 b0.len cb0) (.slice ac0 c0.len cc0) k1 s1 n1 o1 (.slice an1 ns1.length cn1) (.slice aa1 a1.len ca1) (.slice ab1 b1.len cb1) (.slice ac1 c1.len cc1) k2 s2 n2 o2 (.slice an2 ns2.length cn2) (.slice aa2 a2.len ca2) (.slice ab2 b2.len cb2) (.slice ac2 c2.len cc2))) w3 from blwS HB.out hb3 HW)
      have HB4 := Lib.hid (below_old HB3.out)
      have HW3 := hb3.size
      clear hb3 e0 e1 e2 e3 e4 e5 e6 e7 e8 e9 e10 e11 e12 e13 e14 e15 e16 e17 e18 e19 e20 e21 e22 e23
      cases v3 with
      | false =>
        clear hr3
        go_wp2_with fail
        refine (HA _).mono ?_
        rintro e w9 ⟨rfl, hb9⟩
        have HB9 := Lib.hid (blwS HB4.out hb9 HB4.out.size)
        clear hb9
        go_wp2_with fail
        go_ret
        exact ⟨rfl, HB9.out⟩
      | true =>
        have HR := Lib.hid (hr3 rfl)
        clear hr3
        obtain ⟨e0, e1, e2, e3, e4, e5, e6, e7, e8, e9, e10, e11, e12, e13, e14, e15, e16, e17, e18, e19, e20, e21, e22, e23⟩ := box3_cell (Nat.lt_succ_self _) HB3.out
        go_wp2_with fail
        have hcon := HU k0 s0 n0 o0 _ _ _ _ ns0 a0 b0 c0 x _ ⟨by omega, by omega⟩ hx HR.out (HV0.out.keep (keep_up HB4.out (Nat.le_refl _)))
        rw [HU0.out] at hcon
        refine hcon.mono ?_
        clear hcon
        rintro e w5 ⟨rfl, hb5⟩
        have HB5 := Lib.hid (show Below (w.heap.size + 1) (w.alloc (box3 k0 s0 n0 o0 (.slice an0 ns0.length cn0) (.slice aa0 a0.len ca0) (.slice ab0 b0.len cb0) (.slice ac0 c0.len cc0) k1 s1 n1 o1 (.slice an1 ns1.length cn1) (.slice aa1 a1.len ca1) (.slice ab1 b1.len cb1) (.slice ac1 c1.len cc1) k2 s2 n2 o2 (.slice an2 ns2.length cn2) (.slice aa2 a2.len ca2) (.slice ab2 b2.len cb2) (.slice ac2 c2.len cc2))) w5 from blwS HB3.out hb5 (by omega))
        clear hb5 e0 e1 e2 e3 e4 e5 e6 e7 e8 e9 e10 e11 e12 e13 e14 e15 e16 e17 e18 e19 e20 e21 e22 e23
        all_goals
          go_wp2_with fail
          go_roundw
          case rel => exact ⟨0 + 1, by omega, by go_num, by first | rfl | (simp only [sumJ]; go_num), by simp [insJ], HR.out, HB5.out⟩
          case measure => simp [intOf]
    | 1, _ =>
      simp only [sumJ, insJ] at hsum ⊢
      go_wp2_with fail
      refine (few_any k1 s1 n1 o1 _ _ _ _ ns1 a1 b1 c1 _ (by omega) (HV1.out.keep (keep_up HB2.out (Nat.le_refl _)))).mono ?_
      rintro e w3 ⟨v3, rfl, hr3, hb3⟩
      have HB3 := Lib.hid (show Below (w.heap.size + 1) (w.alloc (box3 k0 s0 n0 o0 (.slice an0 ns0.length cn0) (.slice aa0 a0.len ca0) (.slice ab0 b0.len cb0) (.slice ac0 c0.len cc0) k1 s1 n1 o1 (.slice an1 ns1.length cn1) (.slice aa1 a1.len ca1) (.slice ab1 b1.len cb1) (.slice ac1 c1.len cc1) k2 s2 n2 o2 (.slice an2 ns2.length cn2) (.slice aa2 a2.len ca2) (.slice ab2 b2.len cb2) (.slice ac2 c2.len cc2))) w3 from blwS HB.out hb3 HW)
      have HB4 := Lib.hid (below_old HB3.out)
      have HW3 := hb3.size
      clear hb3 e0 e1 e2 e3 e4 e5 e6 e7 e8 e9 e10 e11 e12 e13 e14 e15 e16 e17 e18 e19 e20 e21 e22 e23
      cases v3 with
      | false =>
        clear hr3
        go_wp2_with fail
        refine (HA _).mono ?_
        rintro e w9 ⟨rfl, hb9⟩
        have HB9 := Lib.hid (blwS HB4.out hb9 HB4.out.size)
        clear hb9
        go_wp2_with fail
        go_ret
        exact ⟨rfl, HB9.out⟩
      | true =>
        have HR := Lib.hid (hr3 rfl)
        clear hr3
        obtain ⟨e0, e1, e2, e3, e4, e5, e6, e7, e8, e9, e10, e11, e12, e13, e14, e15, e16, e17, e18, e19, e20, e21, e22, e23⟩ := box3_cell (Nat.lt_succ_self _) HB3.out
        go_wp2_with fail
        have hcon := HU k1 s1 n1 o1 _ _ _ _ ns1 a1 b1 c1 x _ ⟨by omega, by omega⟩ hx HR.out (HV1.out.keep (keep_up HB4.out (Nat.le_refl _)))
        rw [HU1.out] at hcon
        refine hcon.mono ?_
        clear hcon
        rintro e w5 ⟨rfl, hb5⟩
        have HB5 := Lib.hid (show Below (w.heap.size + 1) (w.alloc (box3 k0 s0 n0 o0 (.slice an0 ns0.length cn0) (.slice aa0 a0.len ca0) (.slice ab0 b0.len cb0) (.slice ac0 c0.len cc0) k1 s1 n1 o1 (.slice an1 ns1.length cn1) (.slice aa1 a1.len ca1) (.slice ab1 b1.len cb1) (.slice ac1 c1.len cc1) k2 s2 n2 o2 (.slice an2 ns2.length cn2) (.slice aa2 a2.len ca2) (.slice ab2 b2.len cb2) (.slice ac2 c2.len cc2))) w5 from blwS HB3.out hb5 (by omega))
        clear hb5 e0 e1 e2 e3 e4 e5 e6 e7 e8 e9 e10 e11 e12 e13 e14 e15 e16 e17 e18 e19 e20 e21 e22 e23
        cases q0
        all_goals
          go_wp2_with fail
          go_roundw
          case rel => exact ⟨1 + 1, by omega, by go_num, by first | rfl | (simp only [sumJ]; go_num), by simp [insJ], ⟨HRG.out, HR.out⟩, HB5.out⟩
          case measure => simp [intOf]
    | 2, _ =>
      simp only [sumJ, insJ] at hsum ⊢
      go_wp2_with fail
      refine (few_any k2 s2 n2 o2 _ _ _ _ ns2 a2 b2 c2 _ (by omega) (HV2.out.keep (keep_up HB2.out (Nat.le_refl _)))).mono ?_
      rintro e w3 ⟨v3, rfl, hr3, hb3⟩
      have HB3 := Lib.hid (show Below (w.heap.size + 1) (w.alloc (box3 k0 s0 n0 o0 (.slice an0 ns0.length cn0) (.slice aa0 a0.len ca0) (.slice ab0 b0.len cb0) (.slice ac0 c0.len cc0) k1 s1 n1 o1 (.slice an1 ns1.length cn1) (.slice aa1 a1.len ca1) (.slice ab1 b1.len cb1) (.slice ac1 c1.len cc1) k2 s2 n2 o2 (.slice an2 ns2.length cn2) (.slice aa2 a2.len ca2) (.slice ab2 b2.len cb2) (.slice ac2 c2.len cc2))) w3 from blwS HB.out hb3 HW)
      have HB4 := Lib.hid (below_old HB3.out)
      have HW3 := hb3.size
      clear hb3 e0 e1 e2 e3 e4 e5 e6 e7 e8 e9 e10 e11 e12 e13 e14 e15 e16 e17 e18 e19 e20 e21 e22 e23
      cases v3 with
      | false =>
        clear hr3
        go_wp2_with fail
        refine (HA _).mono ?_
        rintro e w9 ⟨rfl, hb9⟩
        have HB9 := Lib.hid (blwS HB4.out hb9 HB4.out.size)
        clear hb9
        go_wp2_with fail
        go_ret
        exact ⟨rfl, HB9.out⟩
      | true =>
        have HR := Lib.hid (hr3 rfl)
        clear hr3
        obtain ⟨e0, e1, e2, e3, e4, e5, e6, e7, e8, e9, e10, e11, e12, e13, e14, e15, e16, e17, e18, e19, e20, e21, e22, e23⟩ := box3_cell (Nat.lt_succ_self _) HB3.out
        go_wp2_with fail
        have hcon := HU k2 s2 n2 o2 _ _ _ _ ns2 a2 b2 c2 x _ ⟨by omega, by omega⟩ hx HR.out (HV2.out.keep (keep_up HB4.out (Nat.le_refl _)))
        rw [HU2.out] at hcon
        refine hcon.mono ?_
        clear hcon
        rintro e w5 ⟨rfl, hb5⟩
        have HB5 := Lib.hid (show Below (w.heap.size + 1) (w.alloc (box3 k0 s0 n0 o0 (.slice an0 ns0.length cn0) (.slice aa0 a0.len ca0) (.slice ab0 b0.len cb0) (.slice ac0 c0.len cc0) k1 s1 n1 o1 (.slice an1 ns1.length cn1) (.slice aa1 a1.len ca1) (.slice ab1 b1.len cb1) (.slice ac1 c1.len cc1) k2 s2 n2 o2 (.slice an2 ns2.length cn2) (.slice aa2 a2.len ca2) (.slice ab2 b2.len cb2) (.slice ac2 c2.len cc2))) w5 from blwS HB3.out hb5 (by omega))
        clear hb5 e0 e1 e2 e3 e4 e5 e6 e7 e8 e9 e10 e11 e12 e13 e14 e15 e16 e17 e18 e19 e20 e21 e22 e23
        cases q0 <;> cases q1
        all_goals
          go_wp2_with fail
          go_roundw
          case rel => exact ⟨2 + 1, by omega, by go_num, by first | rfl | (simp only [sumJ]; go_num), by simp [insJ], ⟨HRG.out.1, HRG.out.2, HR.out⟩, HB5.out⟩
          case measure => simp [intOf]
    | 3, _ =>
      simp only [sumJ, insJ] at hsum ⊢
      simp only [rgtJ] at HRG
      generalize hQ : ((q0 || q1) || q2) = Q
      have HQ := Lib.hid hQ
      clear hQ
      obtain ⟨M, hM⟩ : ∃ M, m0 + m1 + m2 = M := ⟨_, rfl⟩
      rw [hM] at hsum ⊢
      have HM := Lib.hid hM
      clear hM
      go_wp2_with fail
      have HWa := Lib.hid (show Below (w.heap.size + 1) (w.alloc (box3 k0 s0 n0 o0 (.slice an0 ns0.length cn0) (.slice aa0 a0.len ca0) (.slice ab0 b0.len cb0) (.slice ac0 c0.len cc0) k1 s1 n1 o1 (.slice an1 ns1.length cn1) (.slice aa1 a1.len ca1) (.slice ab1 b1.len cb1) (.slice ac1 c1.len cc1) k2 s2 n2 o2 (.slice an2 ns2.length cn2) (.slice aa2 a2.len ca2) (.slice ab2 b2.len cb2) (.slice ac2 c2.len cc2))) ((wr.alloc (.cells #[.int .i64 k0, .string (bt s0), .int .i64 n0, .int .i64 o0, .slice an0 ns0.length cn0, .slice aa0 a0.len ca0, .slice ab0 b0.len cb0, .slice ac0 c0.len cc0, .int .i64 k1, .string (bt s1), .int .i64 n1, .int .i64 o1, .slice an1 ns1.length cn1, .slice aa1 a1.len ca1, .slice ab1 b1.len cb1, .slice ac1 c1.len cc1, .int .i64 k2, .string (bt s2), .int .i64 n2, .int .i64 o2, .slice an2 ns2.length cn2, .slice aa2 a2.len ca2, .slice ab2 b2.len cb2, .slice ac2 c2.len cc2] 27)).alloc (exBox 4 [] 0 0 (.slice none 0 0) (.slice (some ⟨wr.heap.size, 0, none⟩) 3 3) (.slice none 0 0) (.slice none 0 0))) from (HB.out.alloc HW _).alloc (by simp; omega) _)
      have HE := Lib.hid (three_v (W := (wr.alloc (.cells #[.int .i64 k0, .string (bt s0), .int .i64 n0, .int .i64 o0, .slice an0 ns0.length cn0, .slice aa0 a0.len ca0, .slice ab0 b0.len cb0, .slice ac0 c0.len cc0, .int .i64 k1, .string (bt s1), .int .i64 n1, .int .i64 o1, .slice an1 ns1.length cn1, .slice aa1 a1.len ca1, .slice ab1 b1.len cb1, .slice ac1 c1.len cc1, .int .i64 k2, .string (bt s2), .int .i64 n2, .int .i64 o2, .slice an2 ns2.length cn2, .slice aa2 a2.len ca2, .slice ab2 b2.len cb2, .slice ac2 c2.len cc2] 27)).alloc (exBox 4 [] 0 0 (.slice none 0 0) (.slice (some ⟨wr.heap.size, 0, none⟩) 3 3) (.slice none 0 0) (.slice none 0 0))) (HV0.out.keep (keep_below HB2.out fun _ h => h)) (HV1.out.keep (keep_below HB2.out fun _ h => h)) (HV2.out.keep (keep_below HB2.out fun _ h => h)) (by omega) ((Below.refl _ _).alloc (by simp) _))
      have HRE := Lib.hid (right_app3 HRG.out.1 HRG.out.2.1 HRG.out.2.2)
      have hcE : fits [] (three k0 s0 n0 o0 ns0 a0 b0 c0 k1 s1 n1 o1 ns1 a1 b1 c1 k2 s2 n2 o2 ns2 a2 b2 c2) .nil .nil := ⟨by rw [three_count]; omega, by rw [three_cost]; omega⟩
      have hcon := HU 4 [] 0 0 _ _ _ _ [] (three k0 s0 n0 o0 ns0 a0 b0 c0 k1 s1 n1 o1 ns1 a1 b1 c1 k2 s2 n2 o2 ns2 a2 b2 c2) .nil .nil x _ hcE hx HRE.out HE.out
      rw [uses_app3, HU0.out, HU1.out, HU2.out] at hcon
      dsimp only at hcon
      rw [HQ.out, HM.out] at hcon
      refine hcon.mono ?_
      clear hcon
      rintro e w5 ⟨rfl, hb5⟩
      clear e0 e1 e2 e3 e4 e5 e6 e7 e8 e9 e10 e11 e12 e13 e14 e15 e16 e17 e18 e19 e20 e21 e22 e23
      have hzz : wr.heap.size + 2 ≤ w5.heap.size := by have := hb5.size; simp at this; omega
      obtain ⟨d0, d1, d2, d3, d4, d5, d6, d7⟩ := exBox_cell (w := wr.alloc (.cells #[.int .i64 k0, .string (bt s0), .int .i64 n0, .int .i64 o0, .slice an0 ns0.length cn0, .slice aa0 a0.len ca0, .slice ab0 b0.len cb0, .slice ac0 c0.len cc0, .int .i64 k1, .string (bt s1), .int .i64 n1, .int .i64 o1, .slice an1 ns1.length cn1, .slice aa1 a1.len ca1, .slice ab1 b1.len cb1, .slice ac1 c1.len cc1, .int .i64 k2, .string (bt s2), .int .i64 n2, .int .i64 o2, .slice an2 ns2.length cn2, .slice aa2 a2.len ca2, .slice ab2 b2.len cb2, .slice ac2 c2.len cc2] 27)) (B := wr.heap.size + 2) (by simp) (hb5.mono (by simp))
      simp only [World.size_alloc] at d0 d1 d2 d3 d4 d5 d6 d7
      have hzl : wr.heap.size + 1 < w5.heap.size := by omega
      have D0 := cell_al hzl d0
      have D1 := cell_al hzl d1
      have D2 := cell_al hzl d2
      have D3 := cell_al hzl d3
      have D4 := cell_al hzl d4
      have D5 := cell_al hzl d5
      have D6 := cell_al hzl d6
      have D7 := cell_al hzl d7
      have HBe := Lib.hid (show Below (wr.heap.size + 2) ((wr.alloc (.cells #[.int .i64 k0, .string (bt s0), .int .i64 n0, .int .i64 o0, .slice an0 ns0.length cn0, .slice aa0 a0.len ca0, .slice ab0 b0.len cb0, .slice ac0 c0.len cc0, .int .i64 k1, .string (bt s1), .int .i64 n1, .int .i64 o1, .slice an1 ns1.length cn1, .slice aa1 a1.len ca1, .slice ab1 b1.len cb1, .slice ac1 c1.len cc1, .int .i64 k2, .string (bt s2), .int .i64 n2, .int .i64 o2, .slice an2 ns2.length cn2, .slice aa2 a2.len ca2, .slice ab2 b2.len cb2, .slice ac2 c2.len cc2] 27)).alloc (exBox 4 [] 0 0 (.slice none 0 0) (.slice (some ⟨wr.heap.size, 0, none⟩) 3 3) (.slice none 0 0) (.slice none 0 0))) w5 from hb5.mono (by simp))
      have HB5 := Lib.hid (show Below (w.heap.size + 1) (w.alloc (box3 k0 s0 n0 o0 (.slice an0 ns0.length cn0) (.slice aa0 a0.len ca0) (.slice ab0 b0.len cb0) (.slice ac0 c0.len cc0) k1 s1 n1 o1 (.slice an1 ns1.length cn1) (.slice aa1 a1.len ca1) (.slice ab1 b1.len cb1) (.slice ac1 c1.len cc1) k2 s2 n2 o2 (.slice an2 ns2.length cn2) (.slice aa2 a2.len ca2) (.slice ab2 b2.len cb2) (.slice ac2 c2.len cc2))) w5 from blwS HWa.out hb5 (by simp; omega))
      have HE5 := Lib.hid (HE.out.keep (keep_up hb5 (Nat.le_refl _)))
      have hcat : bt x ++ (⟨#[39]⟩ : ByteArray) = bt (x ++ [39]) := bt_app x [39]
      clear hb5 d0 d1 d2 d3 d4 d5 d6 d7
      go_wp2_with fail
      clear hcat D0 D1 D2 D3 D4 D5 D6 D7
      obtain ⟨W6, hW6⟩ : ∃ W6, W6 = ((w5.alloc (.cells #[.string (bt (x ++ [39]))] 9)).alloc (exBox 4 [] 0 0 (.slice none 0 0) (.slice (some ⟨wr.heap.size, 0, none⟩) 3 3) (.slice none 0 0) (.slice none 0 0))).alloc (exBox 3 [] 0 0 (.slice (some ⟨w5.heap.size, 0, none⟩) 1 1) (.slice (some ⟨w5.heap.size + 1, 0, none⟩) 1 1) (.slice none 0 0) (.slice none 0 0)) := ⟨_, rfl⟩
      have HL6 := Lib.hid (show ExV (Old W6.heap.size) W6 (.slice (some ⟨w5.heap.size, 0, none⟩) 1 1) (.slice (some ⟨w5.heap.size + 1, 0, none⟩) 1 1) (.slice none 0 0) (.slice none 0 0) [x ++ [39]] (.cons .no 4 [] 0 0 [] (three k0 s0 n0 o0 ns0 a0 b0 c0 k1 s1 n1 o1 ns1 a1 b1 c1 k2 s2 n2 o2 ns2 a2 b2 c2) .nil .nil .nil) .nil .nil from by
        rw [hW6]; exact lam_v HE5.out (Nat.le_refl _) ((Below.refl _ _).alloc (by simp) _))
      have h56 : Below w5.heap.size w5 W6 := by rw [hW6]; exact (((Below.refl _ _).alloc (Nat.le_refl _) _).alloc (by simp) _).alloc (by simp; omega) _
      have hRL := right_lam1 (y := x ++ [39]) HRE.out
      have hcL : fits [x ++ [39]] (.cons .no 4 [] 0 0 [] (three k0 s0 n0 o0 ns0 a0 b0 c0 k1 s1 n1 o1 ns1 a1 b1 c1 k2 s2 n2 o2 ns2 a2 b2 c2) .nil .nil .nil) .nil .nil := by
        refine ⟨?_, ?_⟩
        · rw [parts_count]
          have e := three_count k0 s0 n0 o0 ns0 a0 b0 c0 k1 s1 n1 o1 ns1 a1 b1 c1 k2 s2 n2 o2 ns2 a2 b2 c2
          rw [parts_count] at e
          simp only [Fx.count] at e ⊢
          omega
        · rw [lam_cost, three_cost]
          omega
      have hcon := HU 3 [] 0 0 _ _ _ _ [x ++ [39]] (.cons .no 4 [] 0 0 [] (three k0 s0 n0 o0 ns0 a0 b0 c0 k1 s1 n1 o1 ns1 a1 b1 c1 k2 s2 n2 o2 ns2 a2 b2 c2) .nil .nil .nil) .nil .nil x W6 hcL hx hRL HL6.out
      rw [uses_lam1 x (x ++ [39]) (fun e => by have := congrArg List.length e; simp at this), uses_app3, HU0.out, HU1.out, HU2.out] at hcon
      dsimp only at hcon
      rw [HM.out] at hcon
      rw [hW6] at hcon
      refine hcon.mono ?_
      rw [← hW6]
      clear hcon
      rintro e w7 ⟨rfl, hb7⟩
      have h57 := Lib.hid (blwS h56 hb7 h56.size)
      have HB7 := Lib.hid (blwS HB5.out h57.out (by omega))
      have HB7o := Lib.hid (below_old HB7.out)
      have hB7e := blwS HBe.out h57.out (by omega)
      have hE7 := HE5.out.keep (keep_up h57.out (Nat.le_refl _))
      have HE7 := Lib.hid hE7
      obtain ⟨d0, d1, d2, d3, d4, d5, d6, d7⟩ := exBox_cell (w := wr.alloc (.cells #[.int .i64 k0, .string (bt s0), .int .i64 n0, .int .i64 o0, .slice an0 ns0.length cn0, .slice aa0 a0.len ca0, .slice ab0 b0.len cb0, .slice ac0 c0.len cc0, .int .i64 k1, .string (bt s1), .int .i64 n1, .int .i64 o1, .slice an1 ns1.length cn1, .slice aa1 a1.len ca1, .slice ab1 b1.len cb1, .slice ac1 c1.len cc1, .int .i64 k2, .string (bt s2), .int .i64 n2, .int .i64 o2, .slice an2 ns2.length cn2, .slice aa2 a2.len ca2, .slice ab2 b2.len cb2, .slice ac2 c2.len cc2] 27)) (B := wr.heap.size + 2) (by simp) hB7e
      simp only [World.size_alloc] at d0 d1 d2 d3 d4 d5 d6 d7
      clear hb7 h56 hB7e hE7 hW6
      have hdone : ∀ (e : Bool), (((M : Int) == 1) && !Q) = e → True := fun _ _ => trivial
      clear hdone
      by_cases hp : 0 < M
      all_goals
        first
        | (have p1 : decide (0 < M) = true := decide_eq_true hp
           have p2 : decide ((0 : Int) < (M : Int)) = true := decide_eq_true (by omega))
        | (have p1 : decide (0 < M) = false := decide_eq_false hp
           have p2 : decide ((0 : Int) < (M : Int)) = false := decide_eq_false (by omega))
        clear hp
        cases h1 : ((M : Int) == 1)
        all_goals
          cases Q
          all_goals
            go_wp2_with fail
            have hcon := HO 4 [] 0 0 _ _ _ _ [] (three k0 s0 n0 o0 ns0 a0 b0 c0 k1 s1 n1 o1 ns1 a1 b1 c1 k2 s2 n2 o2 ns2 a2 b2 c2) .nil .nil x _ hcE hx HRE.out HE7.out
            rw [uses_app3, HU0.out, HU1.out, HU2.out] at hcon
            dsimp only at hcon
            rw [HQ.out, HM.out, h1] at hcon
            refine hcon.mono ?_
            clear hcon
            rintro e w8 ⟨rfl, hb8⟩
            have HB8 := Lib.hid (blwS HB7o.out hb8 HB7o.out.size)
            clear hb8
            go_wp2_with fail
            refine (HA _).mono ?_
            rintro e w9 ⟨rfl, hb9⟩
            have HB9 := Lib.hid (blwS HB8.out hb9 HB8.out.size)
            clear hb9
            go_wp2_with fail
            go_ret
            exact ⟨rfl, HB9.out⟩
end Go.Proofs.Ytnbbbfjjknkioaa
