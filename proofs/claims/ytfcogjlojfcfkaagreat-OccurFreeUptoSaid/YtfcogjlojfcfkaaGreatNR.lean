/- The chapter's example as the law awake builds it: the region that draws its order, by an invariant over what has come. No condition. -/
import Derived.Test.YtfcogjlojfcfkaaGreatNQ
import Derived.Test.YtfcogjlojfcfkaaGreatNK
namespace Go.Proofs.YtfcogjlojfcfkaaGreat
section
open Go.RowKit Ex0 Go.Shelf
attribute [local go_sem] bt_size bt_list bt_toList

noncomputable def exprFs : Array Field := (Tryz.prog.underlying 27).elim #[] fun | .struct fs => fs | _ => #[]
theorem under_expr : Tryz.prog.underlying 27 = some (.struct exprFs) := by kernel_rfl
theorem size_expr : (Tryz.prog.info? 27).map (·.size) = some 8 := by kernel_rfl

/-- A variable's value. -/
abbrev varV (s : List UInt8) : Value := exV 1 s 0 0 (.slice none 0 0) (.slice none 0 0) (.slice none 0 0) (.slice none 0 0)
abbrev varBox (s : List UInt8) : Obj := exBox 1 s 0 0 (.slice none 0 0) (.slice none 0 0) (.slice none 0 0) (.slice none 0 0)
theorem v_c (s : List UInt8) (W : World) : Calls Tryz.prog 13 #[.string (bt s)] W fun e w' => e = .returned (varV s) ∧ w' = W.alloc (varBox s) := by
  go_enter Tryz.func13, Tryz.ntmps13
  go_wp2_with fail
  exact bodyPost_ret (results_cell_row rfl _ _ W.heap.size 27 #[.int .i64 1, .string (bt s), .int .i64 0, .int .i64 0, .slice none 0 0, .slice none 0 0, .slice none 0 0, .slice none 0 0] (0, 0) (.struct exprFs) rfl (World.alloc_heap_new W _) under_expr rfl size_expr) rfl ⟨rfl, rfl⟩

/-- The blocks of the Lam's names and of its body. -/
def LamAt (W : World) (f2 gn gl : Nat) : Prop := W.heap[gn]? = some (.cells #[.string (bt [121])] 9 (0, 0)) ∧ W.heap[gl]? = some (.cells #[.int .i64 4, .string ⟨#[]⟩, .int .i64 0, .int .i64 0, .slice none 0 0, .slice (some ⟨f2, 0, none⟩) 2 2, .slice none 0 0, .slice none 0 0] 27 (0, 0))
/-- .. and of the App's row. -/
def RowAt (W : World) (f2 gs gn gl : Nat) : Prop := W.heap[gs]? = some (.cells #[.int .i64 1, .string (bt [102]), .int .i64 0, .int .i64 0, .slice none 0 0, .slice none 0 0, .slice none 0 0, .slice none 0 0, .int .i64 1, .string (bt [120]), .int .i64 0, .int .i64 0, .slice none 0 0, .slice none 0 0, .slice none 0 0, .slice none 0 0, .int .i64 3, .string ⟨#[]⟩, .int .i64 0, .int .i64 0, .slice (some ⟨gn, 0, none⟩) 1 1, .slice (some ⟨gl, 0, none⟩) 1 1, .slice none 0 0, .slice none 0 0] 27 (0, 0)) ∧ LamAt W f2 gn gl
def F0 (t : Value) : Prop := t = .agg #[.int .i64 1, .string (bt [102]), .int .i64 0, .int .i64 0, .slice none 0 0, .slice none 0 0, .slice none 0 0, .slice none 0 0]
def F1 (t : Value) : Prop := t = .agg #[.int .i64 1, .string (bt [120]), .int .i64 0, .int .i64 0, .slice none 0 0, .slice none 0 0, .slice none 0 0, .slice none 0 0]
def F2 (W : World) (t : Value) : Prop := ∃ gn, t = .slice (some ⟨gn, 0, none⟩) 1 1 ∧ W.heap[gn]? = some (.cells #[.string (bt [121])] 9 (0, 0))
def F3 (f2 : Nat) (t : Value) : Prop := t = .agg #[.int .i64 4, .string ⟨#[]⟩, .int .i64 0, .int .i64 0, .slice none 0 0, .slice (some ⟨f2, 0, none⟩) 2 2, .slice none 0 0, .slice none 0 0]
def F4 (W : World) (f2 : Nat) (t : Value) : Prop := ∃ gl, t = .slice (some ⟨gl, 0, none⟩) 1 1 ∧ W.heap[gl]? = some (.cells #[.int .i64 4, .string ⟨#[]⟩, .int .i64 0, .int .i64 0, .slice none 0 0, .slice (some ⟨f2, 0, none⟩) 2 2, .slice none 0 0, .slice none 0 0] 27 (0, 0))
def F5 (W : World) (f2 : Nat) (t : Value) : Prop := ∃ gn gl, t = .agg #[.int .i64 3, .string ⟨#[]⟩, .int .i64 0, .int .i64 0, .slice (some ⟨gn, 0, none⟩) 1 1, .slice (some ⟨gl, 0, none⟩) 1 1, .slice none 0 0, .slice none 0 0] ∧ LamAt W f2 gn gl
def F6 (W : World) (f2 : Nat) (t : Value) : Prop := ∃ gs gn gl, t = .slice (some ⟨gs, 0, none⟩) 3 3 ∧ RowAt W f2 gs gn gl
def F7 (W : World) (f2 : Nat) (t : Value) : Prop := ∃ gs gn gl, t = .agg #[.int .i64 4, .string ⟨#[]⟩, .int .i64 0, .int .i64 0, .slice none 0 0, .slice (some ⟨gs, 0, none⟩) 3 3, .slice none 0 0, .slice none 0 0] ∧ RowAt W f2 gs gn gl
def F8 (W0 W : World) (t : Value) : Prop := ∃ g, t = .pointer (some ⟨g, 0, none⟩) ∧ W0.heap.size ≤ g ∧ W.heap[g]? = some (.cells #[.int .i64 0, .string ⟨#[]⟩, .int .i64 0, .int .i64 0, .slice none 0 0, .slice none 0 0, .slice none 0 0, .slice none 0 0] 27 (0, 0))
def F9 (W : World) (f2 : Nat) (t : Value) : Prop := ∃ g gs gn gl, t = .pointer (some ⟨g, 0, none⟩) ∧ W.heap[g]? = some (.cells #[.int .i64 4, .string ⟨#[]⟩, .int .i64 0, .int .i64 0, .slice none 0 0, .slice (some ⟨gs, 0, none⟩) 3 3, .slice none 0 0, .slice none 0 0] 27 (0, 0)) ∧ RowAt W f2 gs gn gl

theorem hp_up {W W' : World} (hb : Below W.heap.size W W') {g : Nat} {o : Obj} (h : W.heap[g]? = some o) : W'.heap[g]? = some o := (hb.block g (Array.getElem?_eq_some_iff.1 h).1).trans h
theorem LamAt.up {W W' : World} {f2 gn gl : Nat} (h : LamAt W f2 gn gl) (hb : Below W.heap.size W W') : LamAt W' f2 gn gl := ⟨hp_up hb h.1, hp_up hb h.2⟩
theorem RowAt.up {W W' : World} {f2 gs gn gl : Nat} (h : RowAt W f2 gs gn gl) (hb : Below W.heap.size W W') : RowAt W' f2 gs gn gl := ⟨hp_up hb h.1, h.2.up hb⟩

/-- What has come of the region. -/
structure E2 (W0 W : World) (f2 : Nat) (d : Array Bool) (t0 t1 t2 t3 t4 t5 t6 t7 t8 : Value) : Prop where
  size : d.size = 10
  bel : Below W0.heap.size W0 W
  e0 : d.getD 0 false = true → F0 t0
  e1 : d.getD 1 false = true → F1 t1
  e2 : d.getD 2 false = true → F2 W t2
  e3 : d.getD 3 false = true → F3 f2 t3
  e4 : d.getD 4 false = true → F4 W f2 t4
  e5 : d.getD 5 false = true → F5 W f2 t5
  e6 : d.getD 6 false = true → F6 W f2 t6
  e7 : d.getD 7 false = true → F7 W f2 t7
  e8 : d.getD 8 false = true → d.getD 9 false = false → F8 W0 W t8
  e9 : d.getD 9 false = true → F9 W f2 t8
  ord : d.getD 9 false = true → d.getD 8 false = true
theorem E2.up {W0 W W' : World} {f2 : Nat} {d : Array Bool} {t0 t1 t2 t3 t4 t5 t6 t7 t8 : Value} (h : E2 W0 W f2 d t0 t1 t2 t3 t4 t5 t6 t7 t8) (hb : Below W.heap.size W W') : E2 W0 W' f2 d t0 t1 t2 t3 t4 t5 t6 t7 t8 :=
  ⟨h.size, h.bel.trans (hb.mono h.bel.size), h.e0, h.e1, fun q => let ⟨g, e, k⟩ := h.e2 q; ⟨g, e, hp_up hb k⟩, h.e3, fun q => let ⟨g, e, k⟩ := h.e4 q; ⟨g, e, hp_up hb k⟩, fun q => let ⟨a, b, e, k⟩ := h.e5 q; ⟨a, b, e, k.up hb⟩,
    fun q => let ⟨a, b, c, e, k⟩ := h.e6 q; ⟨a, b, c, e, k.up hb⟩, fun q => let ⟨a, b, c, e, k⟩ := h.e7 q; ⟨a, b, c, e, k.up hb⟩, fun q q' => let ⟨g, e, l, k⟩ := h.e8 q q'; ⟨g, e, l, hp_up hb k⟩, fun q => let ⟨g, a, b, c, e, k1, k2⟩ := h.e9 q; ⟨g, a, b, c, e, hp_up hb k1, k2.up hb⟩, h.ord⟩
theorem old_one {d : Array Bool} {i : Nat} (hun : d.getD i true = false) (k : Nat) (hk : k ≠ i) (h : (d.setIfInBounds i true).getD k false = true) : d.getD k false = true := by
  rw [listed_set hun] at h
  simpa [hk] using h
theorem E2.s0 {W0 W : World} {f2 : Nat} {d : Array Bool} {t0 t1 t2 t3 t4 t5 t6 t7 t8 v : Value} (h : E2 W0 W f2 d t0 t1 t2 t3 t4 t5 t6 t7 t8) (hun : d.getD 0 true = false) (hv : F0 v) : E2 W0 W f2 (d.setIfInBounds 0 true) v t1 t2 t3 t4 t5 t6 t7 t8 :=
  ⟨by simpa using h.size, h.bel, fun _ => hv, fun q => h.e1 (old_one hun 1 (by decide) q), fun q => h.e2 (old_one hun 2 (by decide) q), fun q => h.e3 (old_one hun 3 (by decide) q), fun q => h.e4 (old_one hun 4 (by decide) q), fun q => h.e5 (old_one hun 5 (by decide) q), fun q => h.e6 (old_one hun 6 (by decide) q), fun q => h.e7 (old_one hun 7 (by decide) q), fun q q2 => h.e8 (old_one hun 8 (by decide) q) (by rw [listed_set hun] at q2; simpa using q2), fun q => h.e9 (old_one hun 9 (by decide) q), fun q => getD_set_true (h.ord (old_one hun 9 (by decide) q))⟩
theorem E2.s1 {W0 W : World} {f2 : Nat} {d : Array Bool} {t0 t1 t2 t3 t4 t5 t6 t7 t8 v : Value} (h : E2 W0 W f2 d t0 t1 t2 t3 t4 t5 t6 t7 t8) (hun : d.getD 1 true = false) (hv : F1 v) : E2 W0 W f2 (d.setIfInBounds 1 true) t0 v t2 t3 t4 t5 t6 t7 t8 :=
  ⟨by simpa using h.size, h.bel, fun q => h.e0 (old_one hun 0 (by decide) q), fun _ => hv, fun q => h.e2 (old_one hun 2 (by decide) q), fun q => h.e3 (old_one hun 3 (by decide) q), fun q => h.e4 (old_one hun 4 (by decide) q), fun q => h.e5 (old_one hun 5 (by decide) q), fun q => h.e6 (old_one hun 6 (by decide) q), fun q => h.e7 (old_one hun 7 (by decide) q), fun q q2 => h.e8 (old_one hun 8 (by decide) q) (by rw [listed_set hun] at q2; simpa using q2), fun q => h.e9 (old_one hun 9 (by decide) q), fun q => getD_set_true (h.ord (old_one hun 9 (by decide) q))⟩
theorem E2.s2 {W0 W : World} {f2 : Nat} {d : Array Bool} {t0 t1 t2 t3 t4 t5 t6 t7 t8 v : Value} (h : E2 W0 W f2 d t0 t1 t2 t3 t4 t5 t6 t7 t8) (hun : d.getD 2 true = false) (hv : F2 W v) : E2 W0 W f2 (d.setIfInBounds 2 true) t0 t1 v t3 t4 t5 t6 t7 t8 :=
  ⟨by simpa using h.size, h.bel, fun q => h.e0 (old_one hun 0 (by decide) q), fun q => h.e1 (old_one hun 1 (by decide) q), fun _ => hv, fun q => h.e3 (old_one hun 3 (by decide) q), fun q => h.e4 (old_one hun 4 (by decide) q), fun q => h.e5 (old_one hun 5 (by decide) q), fun q => h.e6 (old_one hun 6 (by decide) q), fun q => h.e7 (old_one hun 7 (by decide) q), fun q q2 => h.e8 (old_one hun 8 (by decide) q) (by rw [listed_set hun] at q2; simpa using q2), fun q => h.e9 (old_one hun 9 (by decide) q), fun q => getD_set_true (h.ord (old_one hun 9 (by decide) q))⟩
theorem E2.s3 {W0 W : World} {f2 : Nat} {d : Array Bool} {t0 t1 t2 t3 t4 t5 t6 t7 t8 v : Value} (h : E2 W0 W f2 d t0 t1 t2 t3 t4 t5 t6 t7 t8) (hun : d.getD 3 true = false) (hv : F3 f2 v) : E2 W0 W f2 (d.setIfInBounds 3 true) t0 t1 t2 v t4 t5 t6 t7 t8 :=
  ⟨by simpa using h.size, h.bel, fun q => h.e0 (old_one hun 0 (by decide) q), fun q => h.e1 (old_one hun 1 (by decide) q), fun q => h.e2 (old_one hun 2 (by decide) q), fun _ => hv, fun q => h.e4 (old_one hun 4 (by decide) q), fun q => h.e5 (old_one hun 5 (by decide) q), fun q => h.e6 (old_one hun 6 (by decide) q), fun q => h.e7 (old_one hun 7 (by decide) q), fun q q2 => h.e8 (old_one hun 8 (by decide) q) (by rw [listed_set hun] at q2; simpa using q2), fun q => h.e9 (old_one hun 9 (by decide) q), fun q => getD_set_true (h.ord (old_one hun 9 (by decide) q))⟩
theorem E2.s4 {W0 W : World} {f2 : Nat} {d : Array Bool} {t0 t1 t2 t3 t4 t5 t6 t7 t8 v : Value} (h : E2 W0 W f2 d t0 t1 t2 t3 t4 t5 t6 t7 t8) (hun : d.getD 4 true = false) (hv : F4 W f2 v) : E2 W0 W f2 (d.setIfInBounds 4 true) t0 t1 t2 t3 v t5 t6 t7 t8 :=
  ⟨by simpa using h.size, h.bel, fun q => h.e0 (old_one hun 0 (by decide) q), fun q => h.e1 (old_one hun 1 (by decide) q), fun q => h.e2 (old_one hun 2 (by decide) q), fun q => h.e3 (old_one hun 3 (by decide) q), fun _ => hv, fun q => h.e5 (old_one hun 5 (by decide) q), fun q => h.e6 (old_one hun 6 (by decide) q), fun q => h.e7 (old_one hun 7 (by decide) q), fun q q2 => h.e8 (old_one hun 8 (by decide) q) (by rw [listed_set hun] at q2; simpa using q2), fun q => h.e9 (old_one hun 9 (by decide) q), fun q => getD_set_true (h.ord (old_one hun 9 (by decide) q))⟩
theorem E2.s5 {W0 W : World} {f2 : Nat} {d : Array Bool} {t0 t1 t2 t3 t4 t5 t6 t7 t8 v : Value} (h : E2 W0 W f2 d t0 t1 t2 t3 t4 t5 t6 t7 t8) (hun : d.getD 5 true = false) (hv : F5 W f2 v) : E2 W0 W f2 (d.setIfInBounds 5 true) t0 t1 t2 t3 t4 v t6 t7 t8 :=
  ⟨by simpa using h.size, h.bel, fun q => h.e0 (old_one hun 0 (by decide) q), fun q => h.e1 (old_one hun 1 (by decide) q), fun q => h.e2 (old_one hun 2 (by decide) q), fun q => h.e3 (old_one hun 3 (by decide) q), fun q => h.e4 (old_one hun 4 (by decide) q), fun _ => hv, fun q => h.e6 (old_one hun 6 (by decide) q), fun q => h.e7 (old_one hun 7 (by decide) q), fun q q2 => h.e8 (old_one hun 8 (by decide) q) (by rw [listed_set hun] at q2; simpa using q2), fun q => h.e9 (old_one hun 9 (by decide) q), fun q => getD_set_true (h.ord (old_one hun 9 (by decide) q))⟩
theorem E2.s6 {W0 W : World} {f2 : Nat} {d : Array Bool} {t0 t1 t2 t3 t4 t5 t6 t7 t8 v : Value} (h : E2 W0 W f2 d t0 t1 t2 t3 t4 t5 t6 t7 t8) (hun : d.getD 6 true = false) (hv : F6 W f2 v) : E2 W0 W f2 (d.setIfInBounds 6 true) t0 t1 t2 t3 t4 t5 v t7 t8 :=
  ⟨by simpa using h.size, h.bel, fun q => h.e0 (old_one hun 0 (by decide) q), fun q => h.e1 (old_one hun 1 (by decide) q), fun q => h.e2 (old_one hun 2 (by decide) q), fun q => h.e3 (old_one hun 3 (by decide) q), fun q => h.e4 (old_one hun 4 (by decide) q), fun q => h.e5 (old_one hun 5 (by decide) q), fun _ => hv, fun q => h.e7 (old_one hun 7 (by decide) q), fun q q2 => h.e8 (old_one hun 8 (by decide) q) (by rw [listed_set hun] at q2; simpa using q2), fun q => h.e9 (old_one hun 9 (by decide) q), fun q => getD_set_true (h.ord (old_one hun 9 (by decide) q))⟩
theorem E2.s7 {W0 W : World} {f2 : Nat} {d : Array Bool} {t0 t1 t2 t3 t4 t5 t6 t7 t8 v : Value} (h : E2 W0 W f2 d t0 t1 t2 t3 t4 t5 t6 t7 t8) (hun : d.getD 7 true = false) (hv : F7 W f2 v) : E2 W0 W f2 (d.setIfInBounds 7 true) t0 t1 t2 t3 t4 t5 t6 v t8 :=
  ⟨by simpa using h.size, h.bel, fun q => h.e0 (old_one hun 0 (by decide) q), fun q => h.e1 (old_one hun 1 (by decide) q), fun q => h.e2 (old_one hun 2 (by decide) q), fun q => h.e3 (old_one hun 3 (by decide) q), fun q => h.e4 (old_one hun 4 (by decide) q), fun q => h.e5 (old_one hun 5 (by decide) q), fun q => h.e6 (old_one hun 6 (by decide) q), fun _ => hv, fun q q2 => h.e8 (old_one hun 8 (by decide) q) (by rw [listed_set hun] at q2; simpa using q2), fun q => h.e9 (old_one hun 9 (by decide) q), fun q => getD_set_true (h.ord (old_one hun 9 (by decide) q))⟩
theorem E2.s8 {W0 W : World} {f2 : Nat} {d : Array Bool} {t0 t1 t2 t3 t4 t5 t6 t7 t8 v : Value} (h : E2 W0 W f2 d t0 t1 t2 t3 t4 t5 t6 t7 t8) (hun : d.getD 8 true = false) (h9 : d.getD 9 false = false) (hv : F8 W0 W v) : E2 W0 W f2 (d.setIfInBounds 8 true) t0 t1 t2 t3 t4 t5 t6 t7 v :=
  ⟨by simpa using h.size, h.bel, fun q => h.e0 (old_one hun 0 (by decide) q), fun q => h.e1 (old_one hun 1 (by decide) q), fun q => h.e2 (old_one hun 2 (by decide) q), fun q => h.e3 (old_one hun 3 (by decide) q), fun q => h.e4 (old_one hun 4 (by decide) q), fun q => h.e5 (old_one hun 5 (by decide) q), fun q => h.e6 (old_one hun 6 (by decide) q), fun q => h.e7 (old_one hun 7 (by decide) q), fun _ _ => hv, fun q => absurd (old_one hun 9 (by decide) q) (by rw [h9]; decide), fun _ => by rw [listed_set hun]; simp⟩
theorem set_grow (W : World) (g o : Nat) (v : Value) : W.grownBy (W.setCell ⟨g, o, none⟩ v) (some g) := by
  have hb : Below 0 W (W.setCell ⟨g, o, none⟩ v) := (Below.refl _ _).setCell (Nat.zero_le _) _
  exact ⟨hb.os, hb.tape, hb.output, hb.size, fun k _ hk => Below.heap_setCell _ _ _ _ (fun e => hk (by rw [e]))⟩
theorem app_set {W : World} {g gs : Nat} (k8 : W.heap[g]? = some (.cells #[.int .i64 0, .string ⟨#[]⟩, .int .i64 0, .int .i64 0, .slice none 0 0, .slice none 0 0, .slice none 0 0, .slice none 0 0] 27 (0, 0))) :
    ((((((((W.setCell ⟨g, 0, none⟩ (.int .i64 4)).setCell ⟨g, 1, none⟩ (.string ⟨#[]⟩)).setCell ⟨g, 2, none⟩ (.int .i64 0)).setCell ⟨g, 3, none⟩ (.int .i64 0)).setCell ⟨g, 4, none⟩ (.slice none 0 0)).setCell ⟨g, 5, none⟩ (.slice (some ⟨gs, 0, none⟩) 3 3)).setCell ⟨g, 6, none⟩ (.slice none 0 0)).setCell ⟨g, 7, none⟩ (.slice none 0 0)).heap[g]? = some (.cells #[.int .i64 4, .string ⟨#[]⟩, .int .i64 0, .int .i64 0, .slice none 0 0, .slice (some ⟨gs, 0, none⟩) 3 3, .slice none 0 0, .slice none 0 0] 27 (0, 0)) ∧ W.grownBy ((((((((W.setCell ⟨g, 0, none⟩ (.int .i64 4)).setCell ⟨g, 1, none⟩ (.string ⟨#[]⟩)).setCell ⟨g, 2, none⟩ (.int .i64 0)).setCell ⟨g, 3, none⟩ (.int .i64 0)).setCell ⟨g, 4, none⟩ (.slice none 0 0)).setCell ⟨g, 5, none⟩ (.slice (some ⟨gs, 0, none⟩) 3 3)).setCell ⟨g, 6, none⟩ (.slice none 0 0)).setCell ⟨g, 7, none⟩ (.slice none 0 0)) (some g) :=
  ⟨(heap_set (heap_set (heap_set (heap_set (heap_set (heap_set (heap_set (heap_set k8 _) _) _) _) _) _) _) _).trans rfl,
    (((((((set_grow _ _ _ _).trans (set_grow _ _ _ _)).trans (set_grow _ _ _ _)).trans (set_grow _ _ _ _)).trans (set_grow _ _ _ _)).trans (set_grow _ _ _ _)).trans (set_grow _ _ _ _)).trans (set_grow _ _ _ _)⟩
theorem hp_off {W W' : World} {g b : Nat} {o o' : Obj} (hg : W.grownBy W' (some g)) (k8 : W.heap[g]? = some o') (h : W.heap[b]? = some o) (hne : o ≠ o') : W'.heap[b]? = some o :=
  (hg.block b (Array.getElem?_eq_some_iff.1 h).1 (fun e => by cases e; rw [h] at k8; exact hne (Option.some.inj k8))).trans h
theorem RowAt.off {W W' : World} {f2 g gs gn gl : Nat} (h : RowAt W f2 gs gn gl) (hg : W.grownBy W' (some g)) (k8 : W.heap[g]? = some (.cells #[.int .i64 0, .string ⟨#[]⟩, .int .i64 0, .int .i64 0, .slice none 0 0, .slice none 0 0, .slice none 0 0, .slice none 0 0] 27 (0, 0))) : RowAt W' f2 gs gn gl :=
  ⟨hp_off hg k8 h.1 (by simp), hp_off hg k8 h.2.1 (by simp), hp_off hg k8 h.2.2 (by simp)⟩
theorem LamAt.off {W W' : World} {f2 g gn gl : Nat} (h : LamAt W f2 gn gl) (hg : W.grownBy W' (some g)) (k8 : W.heap[g]? = some (.cells #[.int .i64 0, .string ⟨#[]⟩, .int .i64 0, .int .i64 0, .slice none 0 0, .slice none 0 0, .slice none 0 0, .slice none 0 0] 27 (0, 0))) : LamAt W' f2 gn gl :=
  ⟨hp_off hg k8 h.1 (by simp), hp_off hg k8 h.2 (by simp)⟩
theorem E2.s9 {W0 W W' : World} {f2 g gs gn gl : Nat} {d : Array Bool} {t0 t1 t2 t3 t4 t5 t6 t7 : Value} (h : E2 W0 W f2 d t0 t1 t2 t3 t4 t5 t6 t7 (.pointer (some ⟨g, 0, none⟩))) (hun : d.getD 9 true = false) (h8 : d.getD 8 false = true)
    (hge : W0.heap.size ≤ g) (k8 : W.heap[g]? = some (.cells #[.int .i64 0, .string ⟨#[]⟩, .int .i64 0, .int .i64 0, .slice none 0 0, .slice none 0 0, .slice none 0 0, .slice none 0 0] 27 (0, 0))) (k7 : RowAt W f2 gs gn gl) (hg : W.grownBy W' (some g)) (k9 : W'.heap[g]? = some (.cells #[.int .i64 4, .string ⟨#[]⟩, .int .i64 0, .int .i64 0, .slice none 0 0, .slice (some ⟨gs, 0, none⟩) 3 3, .slice none 0 0, .slice none 0 0] 27 (0, 0))) :
    E2 W0 W' f2 (d.setIfInBounds 9 true) t0 t1 t2 t3 t4 t5 t6 t7 (.pointer (some ⟨g, 0, none⟩)) :=
  ⟨by simpa using h.size, h.bel.grown hg h.bel.size (fun q hq => by cases hq; exact hge), fun q => h.e0 (old_one hun 0 (by decide) q), fun q => h.e1 (old_one hun 1 (by decide) q), fun q => let ⟨a, e, k⟩ := h.e2 (old_one hun 2 (by decide) q); ⟨a, e, hp_off hg k8 k (by simp)⟩, fun q => h.e3 (old_one hun 3 (by decide) q),
    fun q => let ⟨a, e, k⟩ := h.e4 (old_one hun 4 (by decide) q); ⟨a, e, hp_off hg k8 k (by simp)⟩, fun q => let ⟨a, b, e, k⟩ := h.e5 (old_one hun 5 (by decide) q); ⟨a, b, e, k.off hg k8⟩, fun q => let ⟨a, b, c, e, k⟩ := h.e6 (old_one hun 6 (by decide) q); ⟨a, b, c, e, k.off hg k8⟩,
    fun q => let ⟨a, b, c, e, k⟩ := h.e7 (old_one hun 7 (by decide) q); ⟨a, b, c, e, k.off hg k8⟩, fun _ q2 => absurd q2 (by rw [listed_set hun]; simp), fun _ => ⟨g, gs, gn, gl, rfl, k9, k7.off hg k8⟩, fun _ => getD_set_true h8⟩
/-- Where all have come. -/
theorem E2.fin {W0 W : World} {f2 : Nat} {d : Array Bool} {t0 t1 t2 t3 t4 t5 t6 t7 t8 : Value} (h : E2 W0 W f2 d t0 t1 t2 t3 t4 t5 t6 t7 t8) (h9 : d.getD 9 false = true) : Below W0.heap.size W0 W ∧ F9 W f2 t8 := ⟨h.bel, h.e9 h9⟩
end

section
open Go.RowKit Ex0 Go.Shelf

def fxA : Fx := .cons .no 1 [102] 0 0 [] .nil .nil .nil (.cons .no 1 [120] 0 0 [] .nil .nil .nil .nil)
def eA : Fx := .cons .no 1 [102] 0 0 [] .nil .nil .nil (.cons .no 1 [120] 0 0 [] .nil .nil .nil (.cons .no 3 [] 0 0 [[121]] (.cons .no 4 [] 0 0 [] fxA .nil .nil .nil) .nil .nil .nil))

theorem nil_ex {ok : Nat → Prop} {W : World} : ExV ok W (.slice none 0 0) (.slice none 0 0) (.slice none 0 0) (.slice none 0 0) [] .nil .nil .nil :=
  ⟨.inl ⟨rfl, _, _, rfl⟩, .inl ⟨rfl, _, _, rfl⟩, .inl ⟨rfl, _, _, rfl⟩, .inl ⟨rfl, _, _, rfl⟩⟩
/-- The blocks of the example. -/
structure AwAt (W : World) (f f2 g gs gn gl : Nat) : Prop where
  fx : W.heap[f]? = some (.cells #[.int .i64 4, .string ⟨#[]⟩, .int .i64 0, .int .i64 0, .slice none 0 0, .slice (some ⟨f2, 0, none⟩) 2 2, .slice none 0 0, .slice none 0 0] 27 (0, 0))
  fr : W.heap[f2]? = some (.cells #[.int .i64 1, .string (bt [102]), .int .i64 0, .int .i64 0, .slice none 0 0, .slice none 0 0, .slice none 0 0, .slice none 0 0, .int .i64 1, .string (bt [120]), .int .i64 0, .int .i64 0, .slice none 0 0, .slice none 0 0, .slice none 0 0, .slice none 0 0] 27 (0, 0))
  e : W.heap[g]? = some (.cells #[.int .i64 4, .string ⟨#[]⟩, .int .i64 0, .int .i64 0, .slice none 0 0, .slice (some ⟨gs, 0, none⟩) 3 3, .slice none 0 0, .slice none 0 0] 27 (0, 0))
  row : RowAt W f2 gs gn gl
theorem AwAt.up {W W' : World} {f f2 g gs gn gl : Nat} (h : AwAt W f f2 g gs gn gl) (hb : Below W.heap.size W W') : AwAt W' f f2 g gs gn gl := ⟨hp_up hb h.fx, hp_up hb h.fr, hp_up hb h.e, h.row.up hb⟩

theorem fx_row {W : World} {f2 : Nat} (h : W.heap[f2]? = some (.cells #[.int .i64 1, .string (bt [102]), .int .i64 0, .int .i64 0, .slice none 0 0, .slice none 0 0, .slice none 0 0, .slice none 0 0, .int .i64 1, .string (bt [120]), .int .i64 0, .int .i64 0, .slice none 0 0, .slice none 0 0, .slice none 0 0, .slice none 0 0] 27 (0, 0))) :
    FxAt (Old W.heap.size) W 0 f2 0 fxA :=
  fxAt_cons.2 ⟨rfl, cell_of h 0 _ rfl, cell_of h 1 _ rfl, cell_of h 2 _ rfl, cell_of h 3 _ rfl, ⟨_, _, _, _, cell_of h 4 _ rfl, cell_of h 5 _ rfl, cell_of h 6 _ rfl, cell_of h 7 _ rfl, nil_ex⟩,
    fxAt_cons.2 ⟨rfl, cell_of h 8 _ rfl, cell_of h 9 _ rfl, cell_of h 10 _ rfl, cell_of h 11 _ rfl, ⟨_, _, _, _, cell_of h 12 _ rfl, cell_of h 13 _ rfl, cell_of h 14 _ rfl, cell_of h 15 _ rfl, nil_ex⟩, trivial⟩⟩
theorem fx_ex {W : World} {f f2 g gs gn gl : Nat} (h : AwAt W f f2 g gs gn gl) : ExV (Old W.heap.size) W (.slice none 0 0) (.slice (some ⟨f2, 0, none⟩) 2 2) (.slice none 0 0) (.slice none 0 0) [] fxA .nil .nil :=
  ⟨.inl ⟨rfl, _, _, rfl⟩, .inr ⟨by simp [fxA], f2, 0, 2, rfl, (Array.getElem?_eq_some_iff.1 h.fr).1, by decide, by decide, fx_row h.fr⟩, .inl ⟨rfl, _, _, rfl⟩, .inl ⟨rfl, _, _, rfl⟩⟩
theorem lam_ex {W : World} {f f2 g gs gn gl : Nat} (h : AwAt W f f2 g gs gn gl) : ExV (Old W.heap.size) W (.slice (some ⟨gn, 0, none⟩) 1 1) (.slice (some ⟨gl, 0, none⟩) 1 1) (.slice none 0 0) (.slice none 0 0) [[121]] (.cons .no 4 [] 0 0 [] fxA .nil .nil .nil) .nil .nil :=
  ⟨.inr ⟨by simp, gn, 0, 1, rfl, (Array.getElem?_eq_some_iff.1 h.row.2.1).1, by decide, by decide, fun i hi => by
      obtain rfl : i = 0 := by simpa using hi
      exact cell_of h.row.2.1 0 _ rfl⟩,
    .inr ⟨by simp, gl, 0, 1, rfl, (Array.getElem?_eq_some_iff.1 h.row.2.2).1, by decide, by decide, fxAt_cons.2 ⟨rfl, cell_of h.row.2.2 0 _ rfl, cell_of h.row.2.2 1 _ rfl, cell_of h.row.2.2 2 _ rfl, cell_of h.row.2.2 3 _ rfl,
      ⟨_, _, _, _, cell_of h.row.2.2 4 _ rfl, cell_of h.row.2.2 5 _ rfl, cell_of h.row.2.2 6 _ rfl, cell_of h.row.2.2 7 _ rfl, fx_ex h⟩, trivial⟩⟩, .inl ⟨rfl, _, _, rfl⟩, .inl ⟨rfl, _, _, rfl⟩⟩
theorem e_ex {W : World} {f f2 g gs gn gl : Nat} (h : AwAt W f f2 g gs gn gl) : ExV (Old W.heap.size) W (.slice none 0 0) (.slice (some ⟨gs, 0, none⟩) 3 3) (.slice none 0 0) (.slice none 0 0) [] eA .nil .nil := by
  have r := h.row.1
  exact ⟨.inl ⟨rfl, _, _, rfl⟩, .inr ⟨by simp [eA], gs, 0, 3, rfl, (Array.getElem?_eq_some_iff.1 r).1, by decide, by decide,
    fxAt_cons.2 ⟨rfl, cell_of r 0 _ rfl, cell_of r 1 _ rfl, cell_of r 2 _ rfl, cell_of r 3 _ rfl, ⟨_, _, _, _, cell_of r 4 _ rfl, cell_of r 5 _ rfl, cell_of r 6 _ rfl, cell_of r 7 _ rfl, nil_ex⟩,
    fxAt_cons.2 ⟨rfl, cell_of r 8 _ rfl, cell_of r 9 _ rfl, cell_of r 10 _ rfl, cell_of r 11 _ rfl, ⟨_, _, _, _, cell_of r 12 _ rfl, cell_of r 13 _ rfl, cell_of r 14 _ rfl, cell_of r 15 _ rfl, nil_ex⟩,
    fxAt_cons.2 ⟨rfl, cell_of r 16 _ rfl, cell_of r 17 _ rfl, cell_of r 18 _ rfl, cell_of r 19 _ rfl, ⟨_, _, _, _, cell_of r 20 _ rfl, cell_of r 21 _ rfl, cell_of r 22 _ rfl, cell_of r 23 _ rfl, lam_ex h⟩, trivial⟩⟩⟩⟩,
    .inl ⟨rfl, _, _, rfl⟩, .inl ⟨rfl, _, _, rfl⟩⟩

theorem uses_ef : usesE [102] 4 [] [] eA .nil .nil = (2, true) := by kernel_rfl
theorem uses_ey : usesE [121] 4 [] [] eA .nil .nil = (0, false) := by kernel_rfl
theorem uses_ex : usesE [120] 4 [] [] eA .nil .nil = (2, true) := by kernel_rfl
theorem uses_fx : usesE [120] 4 [] [] fxA .nil .nil = (1, false) := by kernel_rfl
theorem right_e : rightB 4 [] 0 0 [] eA .nil .nil = true := by kernel_rfl
theorem right_fx : rightB 4 [] 0 0 [] fxA .nil .nil = true := by kernel_rfl
theorem fits_e : fits [] eA .nil .nil := ⟨of_decide_eq_true (by kernel_rfl), of_decide_eq_true (by kernel_rfl)⟩
theorem fits_fx : fits [] fxA .nil .nil := ⟨of_decide_eq_true (by kernel_rfl), of_decide_eq_true (by kernel_rfl)⟩

abbrev eV (gs : Nat) : Value := exV 4 [] 0 0 (.slice none 0 0) (.slice (some ⟨gs, 0, none⟩) 3 3) (.slice none 0 0) (.slice none 0 0)
abbrev fxV (f2 : Nat) : Value := exV 4 [] 0 0 (.slice none 0 0) (.slice (some ⟨f2, 0, none⟩) 2 2) (.slice none 0 0) (.slice none 0 0)
theorem aw_uf {W : World} {f f2 g gs gn gl : Nat} (h : AwAt W f f2 g gs gn gl) : Calls Tryz.prog 7 #[eV gs, .string (bt [102])] W fun e w' => e = .returned (.tuple #[.int .i64 2, .bool true]) ∧ Below W.heap.size W w' := by
  have := uses_c 4 [] 0 0 _ _ _ _ [] eA .nil .nil [102] W fits_e (by decide) right_e (e_ex h)
  rw [uses_ef] at this
  exact this
theorem aw_uy {W : World} {f f2 g gs gn gl : Nat} (h : AwAt W f f2 g gs gn gl) : Calls Tryz.prog 7 #[eV gs, .string (bt [121])] W fun e w' => e = .returned (.tuple #[.int .i64 0, .bool false]) ∧ Below W.heap.size W w' := by
  have := uses_c 4 [] 0 0 _ _ _ _ [] eA .nil .nil [121] W fits_e (by decide) right_e (e_ex h)
  rw [uses_ey] at this
  exact this
theorem aw_oe {W : World} {f f2 g gs gn gl : Nat} (h : AwAt W f f2 g gs gn gl) : Calls Tryz.prog 15 #[eV gs, .string (bt [120])] W fun e w' => e = .returned (.bool false) ∧ Below W.heap.size W w' := by
  have := once_c 4 [] 0 0 _ _ _ _ [] eA .nil .nil [120] W fits_e (by decide) right_e (e_ex h)
  rw [uses_ex] at this
  exact this
theorem aw_of {W : World} {f f2 g gs gn gl : Nat} (h : AwAt W f f2 g gs gn gl) : Calls Tryz.prog 15 #[fxV f2, .string (bt [120])] W fun e w' => e = .returned (.bool true) ∧ Below W.heap.size W w' := by
  have := once_c 4 [] 0 0 _ _ _ _ [] fxA .nil .nil [120] W fits_fx (by decide) right_fx (fx_ex h)
  rw [uses_fx] at this
  exact this
end
end Go.Proofs.YtfcogjlojfcfkaaGreat
