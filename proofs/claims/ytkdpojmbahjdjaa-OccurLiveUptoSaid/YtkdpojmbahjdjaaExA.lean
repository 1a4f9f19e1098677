/- An expression's value and box; where the parts of an expression lie. No condition. -/
import Derived.Test.YtkdpojmbahjdjaaChecked
import Derived.WalkKit
import Derived.WalkSpells
import Derived.Lib.Walk
import Derived.Lib.Hide
import Derived.BigQuiet
import Derived.Deep.QuietTactic
import Derived.Deep.Cut
import Derived.Deep.CutBlock
import Derived.Deep.DeepCutAuto
import Derived.WalkSmall
import Derived.Test.YtkdpojmbahjdjaaEx
namespace Go.Proofs.Ytkdpojmbahjdjaa
open Go.RowKit Ex0

theorem blwS {w a b : World} {B : Nat} (h : Below B w a) (k : Below a.heap.size a b) (hB : B ≤ a.heap.size) : Below B w b := h.trans (k.mono hB)
theorem below_alloc' (w : World) (o : Obj) : Below w.heap.size w (w.alloc o) := (Below.refl _ _).alloc (Nat.le_refl _) o
theorem bcell {W w1 : World} {B : Nat} (hb : Below B W w1) : (∀ b o, b < B → w1.cell? ⟨b, o, none⟩ = W.cell? ⟨b, o, none⟩) ∧ (∀ b o, b < B → w1.frozen? ⟨b, o, none⟩ = W.frozen? ⟨b, o, none⟩) :=
  ⟨fun b o h => hb.cell (p := ⟨b, o, none⟩) h, fun b o h => hb.frozen (p := ⟨b, o, none⟩) h⟩
theorem below_old {w wr : World} {o : Obj} (h : Below (w.heap.size + 1) (w.alloc o) wr) : Below w.heap.size w wr := (below_alloc' w o).trans (h.mono (Nat.le_succ _))

/-- An expression's box. -/
def exBox (k : Int) (s : List UInt8) (n op : Int) (vn va vb vc : Value) : Obj := .cells #[.int .i64 k, .string (bt s), .int .i64 n, .int .i64 op, vn, va, vb, vc] 27
/-- An expression's value. -/
def exV (k : Int) (s : List UInt8) (n op : Int) (vn va vb vc : Value) : Value := .agg #[.int .i64 k, .string (bt s), .int .i64 n, .int .i64 op, vn, va, vb, vc]

theorem exBox_cell {B : Nat} {w wr : World} {k : Int} {s : List UInt8} {n op : Int} {vn va vb vc : Value} (hB : w.heap.size < B) (hb : Below B (w.alloc (exBox k s n op vn va vb vc)) wr) :
    wr.cell? ⟨w.heap.size, 0, none⟩ = some (.int .i64 k) ∧ wr.cell? ⟨w.heap.size, 1, none⟩ = some (.string (bt s)) ∧ wr.cell? ⟨w.heap.size, 2, none⟩ = some (.int .i64 n) ∧ wr.cell? ⟨w.heap.size, 3, none⟩ = some (.int .i64 op) ∧
    wr.cell? ⟨w.heap.size, 4, none⟩ = some vn ∧ wr.cell? ⟨w.heap.size, 5, none⟩ = some va ∧ wr.cell? ⟨w.heap.size, 6, none⟩ = some vb ∧ wr.cell? ⟨w.heap.size, 7, none⟩ = some vc := by
  have h := fun o => hb.cell (p := ⟨w.heap.size, o, none⟩) hB
  unfold exBox at h
  exact ⟨(h 0).trans (by simp [go_sem]), (h 1).trans (by simp [go_sem]), (h 2).trans (by simp [go_sem]), (h 3).trans (by simp [go_sem]), (h 4).trans (by simp [go_sem]), (h 5).trans (by simp [go_sem]), (h 6).trans (by simp [go_sem]), (h 7).trans (by simp [go_sem])⟩

/-- Behind an allocation old cells are as they were. -/
theorem cell_al {w : World} {b o : Nat} {v : Value} (hb : b < w.heap.size) (h : w.cell? ⟨b, o, none⟩ = some v) : ∀ z : Obj, (w.alloc z).cell? ⟨b, o, none⟩ = some v :=
  fun z => ((below_alloc' w z).cell (p := ⟨b, o, none⟩) hb).trans h

theorem keep_up {n : Nat} {w w' : World} (h : Below w.heap.size w w') (hn : n ≤ w.heap.size) : Keep (Old n) (Old w'.heap.size) w w' :=
  fun b hb => ⟨Nat.lt_of_lt_of_le (Nat.lt_of_lt_of_le hb hn) h.size, fun o => h.cell (p := ⟨b, o, none⟩) (Nat.lt_of_lt_of_le hb hn)⟩

/-- All parts of an expression, one behind the other. -/
def parts (a b c : Fx) : Fx := a.app (b.app c)
theorem parts_len (a b c : Fx) : (parts a b c).len = a.len + (b.len + c.len) := by unfold parts; rw [Fx.len_app, Fx.len_app]
theorem parts_count (a b c : Fx) : (parts a b c).count = a.count + (b.count + c.count) := by unfold parts; rw [Fx.count_app, Fx.count_app]

/-- The place of a part: among the expressions, the binds, or the alternatives. -/
inductive Place (f1 : Fx) (p : Pre) (k : Int) (s : List UInt8) (n op : Int) (ns : List (List UInt8)) (x y z : Fx) (a b c : Fx) : Prop where
  | a (h : f1.len < a.len) (r : Fx) (e : a = f1.app (.cons p k s n op ns x y z r))
  | b (g : Fx) (h1 : f1.len = a.len + g.len) (h : g.len < b.len) (r : Fx) (e : b = g.app (.cons p k s n op ns x y z r))
  | c (g : Fx) (h1 : f1.len = a.len + b.len + g.len) (h : g.len < c.len) (r : Fx) (e : c = g.app (.cons p k s n op ns x y z r))
theorem place_of {f1 r : Fx} {p : Pre} {k : Int} {s : List UInt8} {n op : Int} {ns : List (List UInt8)} {x y z : Fx} {a b c : Fx} (h : parts a b c = f1.app (.cons p k s n op ns x y z r)) : Place f1 p k s n op ns x y z a b c := by
  unfold parts at h
  rcases Fx.app_split h with ⟨h1, r', e⟩ | ⟨h1, g, e, h2⟩
  · exact .a h1 r' e
  · rcases Fx.app_split h2 with ⟨h3, r', e'⟩ | ⟨h3, g', e', h4⟩
    · exact .b g (by rw [e, Fx.len_app]) h3 r' e'
    · refine .c g' (by rw [e, e', Fx.len_app, Fx.len_app]; omega) ?_ r h4
      rw [h4, Fx.len_app]
      simp [Fx.len]
theorem fx_nil_of {f p q : Fx} (h : f = p.app q) (hl : ¬ p.len < f.len) : q = .nil := by
  rw [h, Fx.len_app] at hl
  exact Fx.len_zero (by omega)
theorem fx_cons_of {f p q : Fx} (h : f = p.app q) (hl : p.len < f.len) : ∃ pr k s n op ns x y z r, q = .cons pr k s n op ns x y z r := by
  rw [h, Fx.len_app] at hl
  cases q with
  | nil => simp [Fx.len] at hl
  | cons pr k s n op ns x y z r => exact ⟨pr, k, s, n, op, ns, x, y, z, r, rfl⟩
end Go.Proofs.Ytkdpojmbahjdjaa
