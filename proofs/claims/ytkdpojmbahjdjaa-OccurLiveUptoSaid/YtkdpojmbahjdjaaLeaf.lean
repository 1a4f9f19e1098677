/- The free names of an expression without parts: measuring it. No condition. -/
import Derived.Test.YtkdpojmbahjdjaaExA
import Derived.Test.YtkdpojmbahjdjaaAddC
import Derived.Laws.Rows
import Derived.Deep.QuietTactic
namespace Go.Proofs.Ytkdpojmbahjdjaa
open Go.RowKit Ex0

/-- In a block lies an expression without parts, neither a Case. -/
structure LfAt (W : World) (b : Nat) (k : Int) (s : List UInt8) : Prop where
  lt : b < W.heap.size
  c0 : W.cell? ⟨b, 0, none⟩ = some (.int .i64 k)
  c1 : W.cell? ⟨b, 1, none⟩ = some (.string (bt s))
  c4 : ∃ a c, W.cell? ⟨b, 4, none⟩ = some (.slice a 0 c)
  c5 : ∃ a c, W.cell? ⟨b, 5, none⟩ = some (.slice a 0 c)
  c6 : ∃ a c, W.cell? ⟨b, 6, none⟩ = some (.slice a 0 c)
  c7 : ∃ a c, W.cell? ⟨b, 7, none⟩ = some (.slice a 0 c)
  k6 : (k == 6) = false
theorem LfAt.below {W W' : World} {b : Nat} {k : Int} {s : List UInt8} {B : Nat} (h : LfAt W b k s) (hb : Below B W W') (hB : b < B) : LfAt W' b k s := by
  have q := fun o => hb.cell (p := ⟨b, o, none⟩) hB
  obtain ⟨lt, c0, c1, ⟨a4, d4, c4⟩, ⟨a5, d5, c5⟩, ⟨a6, d6, c6⟩, ⟨a7, d7, c7⟩, k6⟩ := h
  exact ⟨Nat.lt_of_lt_of_le lt hb.size, (q _).trans c0, (q _).trans c1, ⟨a4, d4, (q _).trans c4⟩, ⟨a5, d5, (q _).trans c5⟩, ⟨a6, d6, (q _).trans c6⟩, ⟨a7, d7, (q _).trans c7⟩, k6⟩

noncomputable def extFs : Array Field := (Try.prog.underlying 82).elim #[] fun | .struct fs => fs | _ => #[]
theorem under_ext : Try.prog.underlying 82 = some (.struct extFs) := by kernel_rfl
theorem size_ext : (Try.prog.info? 82).map (·.size) = some 4 := by kernel_rfl
theorem hp_two (W : World) (a b : Obj) : ((W.alloc a).alloc b).drew.heap[W.heap.size]? = some a := show ((W.alloc a).alloc b).heap[W.heap.size]? = some a from (Below.heap_alloc _ _ _ (by simp)).trans (World.alloc_heap_new W _)

theorem children_lf (b : Nat) (k : Int) (s : List UInt8) (W : World) (h : LfAt W b k s) :
    Calls Try.prog 47 #[.pointer (some ⟨b, 0, none⟩)] W fun e w' => e = .returned (.int .i64 0) ∧ ∃ n, w' = W.drewN n := by
  obtain ⟨lt, c0, c1, ⟨a4, d4, c4⟩, ⟨a5, d5, c5⟩, ⟨a6, d6, c6⟩, ⟨a7, d7, c7⟩, k6⟩ := h
  go_enter Try.func47, Try.ntmps47
  go_wp2_with fail
  go_quiet (fail)
  go_wp2_with fail
  go_ret
  exact ⟨rfl, _, rfl⟩

set_option maxRecDepth 100000 in
theorem extent_lf (b : Nat) (k : Int) (s : List UInt8) (W : World) (h : LfAt W b k s) :
    Calls Try.prog 46 #[.pointer (some ⟨b, 0, none⟩)] W fun e w' => e = .returned (.agg #[.int .i64 1, .int .i64 1, .int .i64 136, .int .i64 0]) ∧ Below W.heap.size W w' := by
  have HL := Lib.hid h
  obtain ⟨lt, c0, c1, ⟨a4, d4, c4⟩, ⟨a5, d5, c5⟩, ⟨a6, d6, c6⟩, ⟨a7, d7, c7⟩, k6⟩ := h
  have hb1 : Below W.heap.size W (W.alloc (.cells #[.int .i64 0, .int .i64 0, .int .i64 0, .int .i64 0] 82)) := below_alloc' _ _
  have q := fun o => hb1.cell (p := ⟨b, o, none⟩) lt
  have p0 := (q 0).trans c0
  have p4 := (q 4).trans c4
  have p6 := (q 6).trans c6
  have p7 := (q 7).trans c7
  have hb2 := hb1.alloc (by simp) (.cells #[.int .i64 1, .int .i64 1, .int .i64 0, .int .i64 0] 82)
  have q2 := fun o => hb2.cell (p := ⟨b, o, none⟩) lt
  have r0 := (q2 0).trans c0
  have r6 := (q2 6).trans c6
  have r7 := (q2 7).trans c7
  clear q q2 hb1 hb2
  go_enter Try.func46, Try.ntmps46
  go_wp2_with fail
  go_loopw [3, 16] (fun n i wr => n = .int .i64 0 ∧ i = .int .i64 0 ∧ wr = W.alloc (.cells #[.int .i64 0, .int .i64 0, .int .i64 0, .int .i64 0] 82)) (fun _ _ _ => 0)
  case atStart => exact ⟨rfl, rfl, rfl⟩
  case round =>
    obtain ⟨rfl, rfl, rfl⟩ := hrel
    go_wp2_with fail
    go_region
    all_goals go_wp2_with fail
    all_goals refine bodyPost_ret (results_cell_row rfl _ _ W.heap.size 82 #[.int .i64 1, .int .i64 1, .int .i64 136, .int .i64 0] (0, 0) (.struct extFs) rfl (hp_two W _ _) under_ext rfl size_ext) rfl ?_
    all_goals exact ⟨rfl, below_same ((below_alloc' W _).alloc (by simp) _) rfl rfl rfl rfl⟩

/-- In a block lies a measurer that has steps left. -/
def MzAt (W : World) (mb kb : Nat) (p : Int) : Prop := W.heap[mb]? = some (.cells #[.int .i64 p, .map (some kb), .slice none 0 0] 80 (0, 0))
theorem mz_cell {W : World} {mb kb : Nat} {p : Int} (h : MzAt W mb kb p) : W.cell? ⟨mb, 0, none⟩ = some (.int .i64 p) ∧ mb < W.heap.size := by
  unfold MzAt at h
  exact ⟨by simp [World.cell?, h], (Array.getElem?_eq_some_iff.1 h).1⟩

theorem note_lf (mb kb : Nat) (p : Int) (ad : Option Addr) (v0 v1 v2 v3 : Value) (W : World) (h : MzAt W mb kb p) (hp : 0 < p) :
    Calls Try.prog 48 #[.pointer (some ⟨mb, 0, none⟩), .pointer ad, .agg #[v0, v1, v2, v3]] W fun e w' => (∃ v, e = .returned v) ∧ Below W.heap.size W w' := by
  obtain ⟨m0, ml⟩ := mz_cell h
  have z0 := cell_al ml m0
  have hp1 : decide (p > 0) = true := decide_eq_true hp
  have hp2 : decide (0 < p) = true := decide_eq_true hp
  clear h hp
  go_enter Try.func48, Try.ntmps48
  go_wp2_with fail
  refine bodyPost_ret (results_none rfl _ _ _) rfl ?_
  exact ⟨⟨_, rfl⟩, below_alloc' _ _⟩
end Go.Proofs.Ytkdpojmbahjdjaa
