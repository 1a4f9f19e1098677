/- A row of parts that is copied one after another. No condition. -/
import Derived.Test.YtfcogjlojfcfkaaGreatNB
import Derived.Test.YtfcogjlojfcfkaaGreatMR
import Derived.Deep.RegionHeld
section
namespace Go.Proofs.YtfcogjlojfcfkaaGreat
open Go.RowKit Ex0
attribute [local go_sem] bt_size bt_list bt_toList

/-- A row of its own of which f1 is done and f2 is left as it was. -/
structure RowSt (M lo : Nat) (T : TypeId) (m : Nat) (w : World) (g cap n : Nat) (f1 f2 : Fx) : Prop where
  len : f1.len + f2.len = n
  low : lo ≤ g
  hM : M ≤ lo
  own : ∃ cs1 cs2, w.ownsRow lo T (m + 8) (.slice (some ⟨g, 0, none⟩) n cap) n (cs1 ++ cs2) ∧ RwRow (Amid M (g + 1) w.heap.size) w m f1 cs1 ∧ RwRow (Old M) w m f2 cs2
theorem RowSt.start {M lo : Nat} {T : TypeId} {m : Nat} {w : World} {v : Value} {f : Fx} {cs : List Value} (hM : M ≤ lo) (h : w.ownsRow lo T (m + 8) v f.len cs) (hr : RwRow (Old M) w m f cs) (hf : f ≠ .nil) :
    ∃ g cap, v = .slice (some ⟨g, 0, none⟩) f.len cap ∧ RowSt M lo T m w g cap f.len .nil f := by
  have hp : 0 < f.len := by
    cases f with
    | nil => exact absurd rfl hf
    | cons => simp [Fx.len]
  obtain ⟨hl, h⟩ := h
  rcases h with ⟨h, h0⟩ | ⟨g, cap, cur, rfl, hg, hh, hc, hm, hs, ht⟩
  · omega
  · exact ⟨g, cap, rfl, by simp [Fx.len], hg, hM, [], cs, ⟨hl, .inr ⟨g, cap, cur, rfl, hg, hh, hc, hm, hs, ht⟩⟩, rfl, hr⟩
theorem RowSt.lt {M lo : Nat} {T : TypeId} {m : Nat} {w : World} {g cap n : Nat} {f1 f2 : Fx} (h : RowSt M lo T m w g cap n f1 f2) : g < w.heap.size := by
  obtain ⟨cs1, cs2, ho, _⟩ := h.own
  exact (ho.lt g rfl).2
/-- .. where other blocks turn, or new ones come. -/
theorem RowSt.grow {M lo : Nat} {T : TypeId} {m : Nat} {w w' : World} {g cap n : Nat} {f1 f2 : Fx} {row : Option Nat} (h : RowSt M lo T m w g cap n f1 f2) (t : w.grownBy w' row) (hr : ∀ q, row = some q → M ≤ q ∧ q < g) : RowSt M lo T m w' g cap n f1 f2 := by
  have hg := h.lt
  have hM := h.hM
  have hlo := h.low
  obtain ⟨cs1, cs2, ho, h1, h2⟩ := h.own
  have hs := t.size
  have q : ∀ b, b < w.heap.size → (b < M ∨ g ≤ b) → ∀ o, w'.cell? ⟨b, o, none⟩ = w.cell? ⟨b, o, none⟩ := fun b hb hx o =>
    World.cell?_of_block (w := w) (w' := w') (a := ⟨b, o, none⟩) (t.block b hb (fun e => by have := hr b e.symm; omega))
  refine ⟨h.len, h.low, h.hM, cs1, cs2, ho.kept t (.inr fun e => ?_), h1.keep fun b hb => ⟨?_, fun o => ?_⟩, h2.keep fun b hb => ⟨hb, fun o => ?_⟩⟩
  · have := hr g e.symm
    omega
  · rcases hb with hb | hb
    · exact .inl hb
    · exact .inr ⟨hb.1, by omega⟩
  · rcases hb with hb | hb
    · exact q b (by omega) (.inl hb) o
    · exact q b hb.2 (.inr (by omega)) o
  · have : b < M := hb
    exact q b (by omega) (.inl this) o
theorem RowSt.frozen {M lo : Nat} {T : TypeId} {m : Nat} {w : World} {g cap n : Nat} {f1 f2 : Fx} (h : RowSt M lo T m w g cap n f1 f2) (j : Nat) : w.frozen? ⟨g, j, none⟩ = false := by
  obtain ⟨cs1, cs2, ho, _⟩ := h.own
  exact ho.frozenAt j
/-- What stands at a place. -/
theorem RowSt.cell {M lo : Nat} {T : TypeId} {m : Nat} {w : World} {g cap n : Nat} {f1 f2 : Fx} (h : RowSt M lo T m w g cap n f1 f2) (j : Nat) (hj : j < n * (m + 8)) : ∃ u, w.cell? ⟨g, j, none⟩ = some u := by
  obtain ⟨cs1, cs2, ho, _⟩ := h.own
  rw [ho.cellAt j hj]
  have hl := ho.1
  exact ⟨_, List.getElem?_eq_getElem (by omega)⟩
/-- What turns the row's own block alone. -/
theorem rwrow_set {M g m : Nat} {w w' : World} {f : Fx} {cs : List Value} (hM : M ≤ g) (t : w.grownBy w' (some g)) (hw : g < w.heap.size) (h : RwRow (Amid M (g + 1) w.heap.size) w m f cs) : RwRow (Amid M (g + 1) w'.heap.size) w' m f cs := by
  have hs := t.size
  refine h.keep fun b hb => ⟨?_, fun o => World.cell?_of_block (w := w) (w' := w') (a := ⟨b, o, none⟩) (t.block b ?_ (fun e => ?_))⟩
  · rcases hb with hb | hb
    · exact .inl hb
    · exact .inr ⟨hb.1, by omega⟩
  · rcases hb with hb | hb
    · omega
    · exact hb.2
  · have := Option.some.inj e
    rcases hb with hb | hb <;> omega
theorem rwrow_set_old {M g m : Nat} {w w' : World} {f : Fx} {cs : List Value} (hM : M ≤ g) (t : w.grownBy w' (some g)) (hw : g < w.heap.size) (h : RwRow (Old M) w m f cs) : RwRow (Old M) w' m f cs :=
  h.keep fun b hb => ⟨hb, fun o => World.cell?_of_block (w := w) (w' := w') (a := ⟨b, o, none⟩) (t.block b (by have : b < M := hb; omega) (fun e => by have := Option.some.inj e; have : b < M := hb; omega))⟩
theorem exv_set {M g : Nat} {w w' : World} {vn va vb vc : Value} {ns : List (List UInt8)} {a b c : Fx} (hM : M ≤ g) (t : w.grownBy w' (some g)) (hw : g < w.heap.size) (h : ExV (Amid M (g + 1) w.heap.size) w vn va vb vc ns a b c) : ExV (Amid M (g + 1) w'.heap.size) w' vn va vb vc ns a b c := by
  have hs := t.size
  refine h.keep fun b hb => ⟨?_, fun o => World.cell?_of_block (w := w) (w' := w') (a := ⟨b, o, none⟩) (t.block b ?_ (fun e => ?_))⟩
  · rcases hb with hb | hb
    · exact .inl hb
    · exact .inr ⟨hb.1, by omega⟩
  · rcases hb with hb | hb
    · omega
    · exact hb.2
  · have := Option.some.inj e
    rcases hb with hb | hb <;> omega
theorem nsv_set {M g : Nat} {w w' : World} {v : Value} {ns : List (List UInt8)} (hM : M ≤ g) (t : w.grownBy w' (some g)) (hw : g < w.heap.size) (h : NsV (Amid M (g + 1) w.heap.size) w v ns) : NsV (Amid M (g + 1) w'.heap.size) w' v ns := by
  have hs := t.size
  refine h.keep fun b hb => ⟨?_, fun o => World.cell?_of_block (w := w) (w' := w') (a := ⟨b, o, none⟩) (t.block b ?_ (fun e => ?_))⟩
  · rcases hb with hb | hb
    · exact .inl hb
    · exact .inr ⟨hb.1, by omega⟩
  · rcases hb with hb | hb
    · omega
    · exact hb.2
  · have := Option.some.inj e
    rcases hb with hb | hb <;> omega
theorem sets8 {w : World} {g o : Nat} {v0 v1 v2 v3 v4 v5 v6 v7 : Value} : w.grownBy ((((((((w.setCell ⟨g, o, none⟩ v0).setCell ⟨g, o + 1, none⟩ v1).setCell ⟨g, o + 2, none⟩ v2).setCell ⟨g, o + 3, none⟩ v3).setCell ⟨g, o + 4, none⟩ v4).setCell ⟨g, o + 5, none⟩ v5).setCell ⟨g, o + 6, none⟩ v6).setCell ⟨g, o + 7, none⟩ v7) (some g) :=
  (((((((mz_set w g o v0).trans (mz_set _ g _ v1)).trans (mz_set _ g _ v2)).trans (mz_set _ g _ v3)).trans (mz_set _ g _ v4)).trans (mz_set _ g _ v5)).trans (mz_set _ g _ v6)).trans (mz_set _ g _ v7)
theorem sets12 {w : World} {g o : Nat} {v0 v1 v2 v3 v4 v5 v6 v7 v8 v9 v10 v11 : Value} : w.grownBy ((((((((((((w.setCell ⟨g, o, none⟩ v0).setCell ⟨g, o + 1, none⟩ v1).setCell ⟨g, o + 2, none⟩ v2).setCell ⟨g, o + 3, none⟩ v3).setCell ⟨g, o + 4, none⟩ v4).setCell ⟨g, o + 5, none⟩ v5).setCell ⟨g, o + 6, none⟩ v6).setCell ⟨g, o + 7, none⟩ v7).setCell ⟨g, o + 8, none⟩ v8).setCell ⟨g, o + 9, none⟩ v9).setCell ⟨g, o + 10, none⟩ v10).setCell ⟨g, o + 11, none⟩ v11) (some g) :=
  (((((((((((mz_set w g o v0).trans (mz_set _ g _ v1)).trans (mz_set _ g _ v2)).trans (mz_set _ g _ v3)).trans (mz_set _ g _ v4)).trans (mz_set _ g _ v5)).trans (mz_set _ g _ v6)).trans (mz_set _ g _ v7)).trans (mz_set _ g _ v8)).trans (mz_set _ g _ v9)).trans (mz_set _ g _ v10)).trans (mz_set _ g _ v11)
theorem rw_fx {ok : Nat → Prop} {w : World} {m : Nat} {p : Pre} {pc : List Value} {z : By} {vn va vb vc : Value} (hp : PreC ok w m p pc) (hx : ExV ok w vn va vb vc z.ns z.a z.b z.c) : RwRow ok w m (z.fx p .nil) (pc ++ (.int .i64 z.k :: .string (bt z.s) :: .int .i64 z.n :: .int .i64 z.op :: vn :: va :: vb :: vc :: [])) :=
  ⟨pc, vn, va, vb, vc, [], hp, rfl, hx, rfl⟩
/-- A part is put into a row of expressions. -/
theorem RowSt.put0 {M lo : Nat} {T : TypeId} {w : World} {g cap n o : Nat} {f1 r : Fx} {k : Int} {s : List UInt8} {n' op : Int} {ns : List (List UInt8)} {a b c : Fx} (h : RowSt M lo T 0 w g cap n f1 (.cons .no k s n' op ns a b c r)) (ho : o = f1.len * 8)
    {z : By} {vn va vb vc : Value} (hz : ExV (Amid M (g + 1) w.heap.size) w vn va vb vc z.ns z.a z.b z.c) :
    RowSt M lo T 0 ((((((((w.setCell ⟨g, o, none⟩ (.int .i64 z.k)).setCell ⟨g, o + 1, none⟩ (.string (bt z.s))).setCell ⟨g, o + 2, none⟩ (.int .i64 z.n)).setCell ⟨g, o + 3, none⟩ (.int .i64 z.op)).setCell ⟨g, o + 4, none⟩ vn).setCell ⟨g, o + 5, none⟩ va).setCell ⟨g, o + 6, none⟩ vb).setCell ⟨g, o + 7, none⟩ vc) g cap n (f1.app (z.fx .no .nil)) r := by
  have hg := h.lt
  have hMg : M ≤ g := Nat.le_trans h.hM h.low
  obtain ⟨cs1, cs2, hown, h1, pc, un, ua, ub, uc, cr, hp, rfl, hx, hr⟩ := h.own
  obtain ⟨_, rfl⟩ := hp
  have hl1 := h1.length
  have t := sets8 (w := w) (g := g) (o := o) (v0 := .int .i64 z.k) (v1 := .string (bt z.s)) (v2 := .int .i64 z.n) (v3 := .int .i64 z.op) (v4 := vn) (v5 := va) (v6 := vb) (v7 := vc)
  refine ⟨by have := h.len; rw [Fx.len_app]; simp only [By.fx, Fx.len] at this ⊢; omega, h.low, h.hM, cs1 ++ (.int .i64 z.k :: .string (bt z.s) :: .int .i64 z.n :: .int .i64 z.op :: vn :: va :: vb :: vc :: []), cr, ?_, ?_, rwrow_set_old hMg t hg hr⟩
  · rw [List.append_assoc]
    exact own_set8 (old := [.int .i64 k, .string (bt s), .int .i64 n', .int .i64 op, un, ua, ub, uc]) (cs2 := cr) hown rfl (by omega)
  · exact RwRow.app (rw_fx (p := .no) (pc := []) ⟨rfl, rfl⟩ (exv_set hMg t hg hz)) (rwrow_set hMg t hg h1)
/-- .. of binds. -/
theorem RowSt.put1 {M lo : Nat} {T : TypeId} {w : World} {g cap n o : Nat} {f1 r : Fx} {p : Pre} {k : Int} {s : List UInt8} {n' op : Int} {ns : List (List UInt8)} {a b c : Fx} (h : RowSt M lo T 1 w g cap n f1 (.cons p k s n' op ns a b c r)) (ho : o = f1.len * 9 + 1)
    {z : By} {vn va vb vc : Value} (hz : ExV (Amid M (g + 1) w.heap.size) w vn va vb vc z.ns z.a z.b z.c) :
    RowSt M lo T 1 ((((((((w.setCell ⟨g, o, none⟩ (.int .i64 z.k)).setCell ⟨g, o + 1, none⟩ (.string (bt z.s))).setCell ⟨g, o + 2, none⟩ (.int .i64 z.n)).setCell ⟨g, o + 3, none⟩ (.int .i64 z.op)).setCell ⟨g, o + 4, none⟩ vn).setCell ⟨g, o + 5, none⟩ va).setCell ⟨g, o + 6, none⟩ vb).setCell ⟨g, o + 7, none⟩ vc) g cap n (f1.app (z.fx p .nil)) r := by
  have hg := h.lt
  have hMg : M ≤ g := Nat.le_trans h.hM h.low
  obtain ⟨cs1, cs2, hown, h1, pc, un, ua, ub, uc, cr, hp, rfl, hx, hr⟩ := h.own
  have hl1 := h1.length
  have hlp := hp.len
  have t := sets8 (w := w) (g := g) (o := o) (v0 := .int .i64 z.k) (v1 := .string (bt z.s)) (v2 := .int .i64 z.n) (v3 := .int .i64 z.op) (v4 := vn) (v5 := va) (v6 := vb) (v7 := vc)
  have hp' : PreC (Amid M (g + 1) ((((((((w.setCell ⟨g, o, none⟩ (.int .i64 z.k)).setCell ⟨g, o + 1, none⟩ (.string (bt z.s))).setCell ⟨g, o + 2, none⟩ (.int .i64 z.n)).setCell ⟨g, o + 3, none⟩ (.int .i64 z.op)).setCell ⟨g, o + 4, none⟩ vn).setCell ⟨g, o + 5, none⟩ va).setCell ⟨g, o + 6, none⟩ vb).setCell ⟨g, o + 7, none⟩ vc).heap.size) ((((((((w.setCell ⟨g, o, none⟩ (.int .i64 z.k)).setCell ⟨g, o + 1, none⟩ (.string (bt z.s))).setCell ⟨g, o + 2, none⟩ (.int .i64 z.n)).setCell ⟨g, o + 3, none⟩ (.int .i64 z.op)).setCell ⟨g, o + 4, none⟩ vn).setCell ⟨g, o + 5, none⟩ va).setCell ⟨g, o + 6, none⟩ vb).setCell ⟨g, o + 7, none⟩ vc) 1 p pc := by
    cases p with
    | no => exact hp
    | bind s => exact hp
    | alt k s n ns => exact absurd hp.1 (by decide)
  refine ⟨by have := h.len; rw [Fx.len_app]; simp only [By.fx, Fx.len] at this ⊢; omega, h.low, h.hM, cs1 ++ (pc ++ (.int .i64 z.k :: .string (bt z.s) :: .int .i64 z.n :: .int .i64 z.op :: vn :: va :: vb :: vc :: [])), cr, ?_, ?_, rwrow_set_old hMg t hg hr⟩
  · have e : ∀ l : List Value, cs1 ++ (pc ++ l) = (cs1 ++ pc) ++ l := fun l => (List.append_assoc _ _ _).symm
    rw [e] at hown ⊢
    rw [List.append_assoc]
    exact own_set8 (old := [.int .i64 k, .string (bt s), .int .i64 n', .int .i64 op, un, ua, ub, uc]) (cs2 := cr) hown rfl (by rw [List.length_append]; omega)
  · exact RwRow.app (rw_fx hp' (exv_set hMg t hg hz)) (rwrow_set hMg t hg h1)
/-- .. of alternatives. -/
theorem RowSt.put4 {M lo : Nat} {T : TypeId} {w : World} {g cap n o : Nat} {f1 r : Fx} {k1 : Int} {s1 : List UInt8} {n1 : Int} {ns1 : List (List UInt8)} {k : Int} {s : List UInt8} {n' op : Int} {ns : List (List UInt8)} {a b c : Fx} (h : RowSt M lo T 4 w g cap n f1 (.cons (.alt k1 s1 n1 ns1) k s n' op ns a b c r)) (ho : o = f1.len * 12)
    {z : By} {v1 vn va vb vc : Value} (hv1 : NsV (Amid M (g + 1) w.heap.size) w v1 ns1) (hz : ExV (Amid M (g + 1) w.heap.size) w vn va vb vc z.ns z.a z.b z.c) :
    RowSt M lo T 4 ((((((((((((w.setCell ⟨g, o, none⟩ (.int .i64 k1)).setCell ⟨g, o + 1, none⟩ (.string (bt s1))).setCell ⟨g, o + 2, none⟩ (.int .i64 n1)).setCell ⟨g, o + 3, none⟩ v1).setCell ⟨g, o + 4, none⟩ (.int .i64 z.k)).setCell ⟨g, o + 5, none⟩ (.string (bt z.s))).setCell ⟨g, o + 6, none⟩ (.int .i64 z.n)).setCell ⟨g, o + 7, none⟩ (.int .i64 z.op)).setCell ⟨g, o + 8, none⟩ vn).setCell ⟨g, o + 9, none⟩ va).setCell ⟨g, o + 10, none⟩ vb).setCell ⟨g, o + 11, none⟩ vc) g cap n (f1.app (z.fx (.alt k1 s1 n1 ns1) .nil)) r := by
  have hg := h.lt
  have hMg : M ≤ g := Nat.le_trans h.hM h.low
  obtain ⟨cs1, cs2, hown, h1, pc, un, ua, ub, uc, cr, hp, rfl, hx, hr⟩ := h.own
  obtain ⟨_, v1', rfl, _⟩ := hp
  have hl1 := h1.length
  have t := sets12 (w := w) (g := g) (o := o) (v0 := .int .i64 k1) (v1 := .string (bt s1)) (v2 := .int .i64 n1) (v3 := v1) (v4 := .int .i64 z.k) (v5 := .string (bt z.s)) (v6 := .int .i64 z.n) (v7 := .int .i64 z.op) (v8 := vn) (v9 := va) (v10 := vb) (v11 := vc)
  refine ⟨by have := h.len; rw [Fx.len_app]; simp only [By.fx, Fx.len] at this ⊢; omega, h.low, h.hM, cs1 ++ (.int .i64 k1 :: .string (bt s1) :: .int .i64 n1 :: v1 :: .int .i64 z.k :: .string (bt z.s) :: .int .i64 z.n :: .int .i64 z.op :: vn :: va :: vb :: vc :: []), cr, ?_, ?_, rwrow_set_old hMg t hg hr⟩
  · rw [List.append_assoc]
    exact own_set12 (old := [.int .i64 k1, .string (bt s1), .int .i64 n1, v1', .int .i64 k, .string (bt s), .int .i64 n', .int .i64 op, un, ua, ub, uc]) (cs2 := cr) hown rfl (by omega)
  · exact RwRow.app (rw_fx (p := .alt k1 s1 n1 ns1) (pc := [.int .i64 k1, .string (bt s1), .int .i64 n1, v1]) ⟨rfl, v1, rfl, nsv_set hMg t hg hv1⟩ (exv_set hMg t hg hz)) (rwrow_set hMg t hg h1)
/-- All is done. -/
theorem RowSt.value {M lo : Nat} {T : TypeId} {m : Nat} {w : World} {g cap n : Nat} {f : Fx} (h : RowSt M lo T m w g cap n f .nil) {ok : Nat → Prop} (hok : ∀ b, Amid M (g + 1) w.heap.size b → ok b) (hg : ok g) : FxV ok w m (.slice (some ⟨g, 0, none⟩) n cap) f := by
  obtain ⟨cs1, cs2, hown, h1, h2⟩ := h.own
  have h2' : cs2 = [] := h2
  subst h2'
  rw [List.append_nil] at hown
  exact h1.value hown (by have := h.len; simp only [Fx.len] at this; omega) hok (fun q hq => by cases hq; exact hg)
end Go.Proofs.YtfcogjlojfcfkaaGreat
end

section
namespace Go.Proofs.YtfcogjlojfcfkaaGreat
open Go.RowKit Ex0
attribute [local go_sem] bt_size bt_list bt_toList

/-- What stays so long as an expression is copied: the replacer, the expression, the answer's block and the copy's. -/
structure CpW (M rb ybk yof : Nat) (x : List UInt8) (y : By) (YB : Nat) (W0 w : World) (room : Int) (B6 B7 bk of : Nat) (k : Int) (s : List UInt8) (n op : Int) (vn va vb vc : Value) (ns : List (List UInt8)) (a b c : Fx) (c4 c5 c6 c7 : Value) : Prop where
  rp : RpW M rb ybk yof x y YB w room
  lr : rb < W0.heap.size
  lb : bk < W0.heap.size
  l6 : W0.heap.size ≤ B6
  l7 : B6 < B7
  ex : ExR rb M w bk of k s n op vn va vb vc ns a b c
  h6 : w.heap[B6]? = some (.cells #[.int .i64 0, .string ⟨#[]⟩, .int .i64 0, .int .i64 0, .slice none 0 0, .slice none 0 0, .slice none 0 0, .slice none 0 0] 27 (0, 0))
  h7 : w.heap[B7]? = some (.cells #[.int .i64 k, .string (bt s), .int .i64 n, .int .i64 op, c4, c5, c6, c7] 27 (0, 0))
  gr : W0.grownBy w (some rb)
variable {M rb ybk yof : Nat} {x : List UInt8} {y : By} {YB : Nat} {W0 w w' : World} {room room' : Int} {B6 B7 bk of : Nat} {k : Int} {s : List UInt8} {n op : Int} {vn va vb vc : Value} {ns : List (List UInt8)} {a b c : Fx} {c4 c5 c6 c7 : Value}
theorem CpW.lt (h : CpW M rb ybk yof x y YB W0 w room B6 B7 bk of k s n op vn va vb vc ns a b c c4 c5 c6 c7) : B7 < w.heap.size := (Array.getElem?_eq_some_iff.1 h.h7).1
/-- The expression where any block but those below the call's turns. -/
theorem ExR.still {row : Option Nat} (h : ExR rb M w bk of k s n op vn va vb vc ns a b c) (t : w.grownBy w' row) (hr : ∀ q, row = some q → M ≤ q ∧ bk ≠ q) (hw : M ≤ w.heap.size) : ExR rb M w' bk of k s n op vn va vb vc ns a b c :=
  have c := fun o => World.cell?_of_block (w := w) (w' := w') (a := ⟨bk, o, none⟩) (t.block bk h.lt (fun e => (hr bk e.symm).2 rfl))
  ⟨Nat.lt_of_lt_of_le h.lt t.size, h.ne, (c _).trans h.c0, (c _).trans h.c1, (c _).trans h.c2, (c _).trans h.c3, (c _).trans h.c4, (c _).trans h.c5, (c _).trans h.c6, (c _).trans h.c7,
    h.ex.keep fun b hb => ⟨hb, fun o => World.cell?_of_block (w := w) (w' := w') (a := ⟨b, o, none⟩) (t.block b (Nat.lt_of_lt_of_le hb hw) (fun e => by have := (hr b e.symm).1; have : b < M := hb; omega))⟩⟩
/-- Behind a copy. -/
theorem CpW.copy (h : CpW M rb ybk yof x y YB W0 w room B6 B7 bk of k s n op vn va vb vc ns a b c c4 c5 c6 c7) (t : w.grownBy w' (some rb)) (hr : RpAt w' rb x ⟨ybk, yof, none⟩ YB room') (hle : room' ≤ room) : CpW M rb ybk yof x y YB W0 w' room' B6 B7 bk of k s n op vn va vb vc ns a b c c4 c5 c6 c7 :=
  have h1 := h.lt
  have h2 := h.l7
  have h3 := h.l6
  have h4 := h.lr
  ⟨h.rp.step t hr hle, h.lr, h.lb, h.l6, h.l7, h.ex.grow t h.rp.hM h.rp.hMW, (t.block B6 (by omega) (by simp; omega)).trans h.h6, (t.block B7 (by omega) (by simp; omega)).trans h.h7, grow_two (h.gr.trans t) (fun q e => .inl (Option.some.inj e).symm)⟩
/-- Behind what turns a younger block, or makes new ones. -/
theorem CpW.still {row : Option Nat} (h : CpW M rb ybk yof x y YB W0 w room B6 B7 bk of k s n op vn va vb vc ns a b c c4 c5 c6 c7) (t : w.grownBy w' row) (hr : ∀ q, row = some q → B7 < q) : CpW M rb ybk yof x y YB W0 w' room B6 B7 bk of k s n op vn va vb vc ns a b c c4 c5 c6 c7 :=
  have h1 := h.lt
  have h2 := h.l7
  have h3 := h.l6
  have h4 := h.lr
  have h5 := h.lb
  have hM := h.rp.hM
  ⟨h.rp.still t (fun q e => by have := hr q e; omega), h.lr, h.lb, h.l6, h.l7, h.ex.still t (fun q e => by have := hr q e; omega) h.rp.hMW, (t.block B6 (by omega) (fun e => by have := hr B6 e.symm; omega)).trans h.h6, (t.block B7 (by omega) (fun e => by have := hr B7 e.symm; omega)).trans h.h7,
    ⟨t.os.trans h.gr.os, t.tape.trans h.gr.tape, t.output.trans h.gr.output, Nat.le_trans h.gr.size t.size, fun i hi hn => (t.block i (Nat.lt_of_lt_of_le hi h.gr.size) (fun e => by have := hr i e.symm; omega)).trans (h.gr.block i hi hn)⟩⟩
/-- Behind a store into the copy. -/
theorem CpW.turn {o : Nat} {u c4' c5' c6' c7' : Value} (h : CpW M rb ybk yof x y YB W0 w room B6 B7 bk of k s n op vn va vb vc ns a b c c4 c5 c6 c7) (h7 : (w.setCell ⟨B7, o, none⟩ u).heap[B7]? = some (.cells #[.int .i64 k, .string (bt s), .int .i64 n, .int .i64 op, c4', c5', c6', c7'] 27 (0, 0))) :
    CpW M rb ybk yof x y YB W0 (w.setCell ⟨B7, o, none⟩ u) room B6 B7 bk of k s n op vn va vb vc ns a b c c4' c5' c6' c7' :=
  have h1 := h.lt
  have h2 := h.l7
  have h3 := h.l6
  have h4 := h.lr
  have h5 := h.lb
  have hM := h.rp.hM
  have t := mz_set w B7 o u
  ⟨h.rp.still t (fun q e => by cases e; omega), h.lr, h.lb, h.l6, h.l7, h.ex.still t (fun q e => by cases e; omega) h.rp.hMW, (t.block B6 (by omega) (by simp; omega)).trans h.h6, h7,
    ⟨t.os.trans h.gr.os, t.tape.trans h.gr.tape, t.output.trans h.gr.output, Nat.le_trans h.gr.size t.size, fun i hi hn => (t.block i (Nat.lt_of_lt_of_le hi h.gr.size) (by simp; omega)).trans (h.gr.block i hi hn)⟩⟩
theorem CpW.turn4 (h : CpW M rb ybk yof x y YB W0 w room B6 B7 bk of k s n op vn va vb vc ns a b c c4 c5 c6 c7) (u : Value) : CpW M rb ybk yof x y YB W0 (w.setCell ⟨B7, 4, none⟩ u) room B6 B7 bk of k s n op vn va vb vc ns a b c u c5 c6 c7 := h.turn ((heap_set h.h7 _).trans rfl)
theorem CpW.turn5 (h : CpW M rb ybk yof x y YB W0 w room B6 B7 bk of k s n op vn va vb vc ns a b c c4 c5 c6 c7) (u : Value) : CpW M rb ybk yof x y YB W0 (w.setCell ⟨B7, 5, none⟩ u) room B6 B7 bk of k s n op vn va vb vc ns a b c c4 u c6 c7 := h.turn ((heap_set h.h7 _).trans rfl)
theorem CpW.turn6 (h : CpW M rb ybk yof x y YB W0 w room B6 B7 bk of k s n op vn va vb vc ns a b c c4 c5 c6 c7) (u : Value) : CpW M rb ybk yof x y YB W0 (w.setCell ⟨B7, 6, none⟩ u) room B6 B7 bk of k s n op vn va vb vc ns a b c c4 c5 u c7 := h.turn ((heap_set h.h7 _).trans rfl)
theorem CpW.turn7 (h : CpW M rb ybk yof x y YB W0 w room B6 B7 bk of k s n op vn va vb vc ns a b c c4 c5 c6 c7) (u : Value) : CpW M rb ybk yof x y YB W0 (w.setCell ⟨B7, 7, none⟩ u) room B6 B7 bk of k s n op vn va vb vc ns a b c c4 c5 c6 u := h.turn ((heap_set h.h7 _).trans rfl)
/-- What has been made stays, where the replacer's block turns, or the copy's, or a younger one. -/
theorem amid_keep {lo hi hi' : Nat} {row : Option Nat} (t : w.grownBy w' row) (hr : ∀ q, row = some q → M ≤ q ∧ (q < lo ∨ hi ≤ q)) (h1 : hi ≤ w.heap.size) (h2 : hi ≤ hi') (h3 : M ≤ w.heap.size) : Keep (Amid M lo hi) (Amid M lo hi') w w' := fun b hb => by
  refine ⟨?_, fun o => World.cell?_of_block (w := w) (w' := w') (a := ⟨b, o, none⟩) (t.block b ?_ (fun e => ?_))⟩
  · rcases hb with hb | hb
    · exact .inl hb
    · exact .inr ⟨hb.1, by omega⟩
  · rcases hb with hb | hb <;> omega
  · have := hr b e.symm
    rcases hb with hb | hb <;> omega
/-- The room that a row's parts may take. -/
def needF (YB : Nat) (op : Bool) (f : Fx) : Nat := if op then YB * f.count else 0
theorem needF_app (YB : Nat) (op : Bool) (f g : Fx) : needF YB op (f.app g) = needF YB op f + needF YB op g := by
  unfold needF
  cases op with
  | false => rfl
  | true => simp only [if_true, Fx.count_app, Nat.mul_add]
theorem needF_one (YB : Nat) (op : Bool) (p : Pre) (k : Int) (s : List UInt8) (n op' : Int) (ns : List (List UInt8)) (a b c : Fx) : needF YB op (.cons p k s n op' ns a b c .nil) = need YB op (parts a b c).count := by
  unfold needF need
  cases op with
  | false => rfl
  | true =>
    simp only [if_true, Fx.count, parts_count]
    congr 1
    omega
theorem needF_nil (YB : Nat) (op : Bool) : needF YB op .nil = 0 := by unfold needF; cases op <;> rfl
theorem needF_le {YB : Nat} {op : Bool} {a b c : Fx} : needF YB op a + needF YB op b + needF YB op c ≤ need YB op (parts a b c).count := by
  unfold needF need
  cases op with
  | false => simp
  | true =>
    simp only [if_true, parts_count, ← Nat.mul_add]
    exact Nat.mul_le_mul_left _ (by omega)
end Go.Proofs.YtfcogjlojfcfkaaGreat
end

section
namespace Go.Proofs.YtfcogjlojfcfkaaGreat
open Go.RowKit Ex0
attribute [local go_sem] bt_size bt_list bt_toList

/-- A row that is copied part by part, or none. -/
def RowV (M lo : Nat) (T : TypeId) (m : Nat) (w : World) (ad : Option Addr) (cap n : Nat) (f1 f2 : Fx) : Prop :=
  (n = 0 ∧ f1 = .nil ∧ f2 = .nil) ∨ ∃ g, ad = some ⟨g, 0, none⟩ ∧ RowSt M lo T m w g cap n f1 f2
theorem RowV.start {M lo : Nat} {T : TypeId} {m : Nat} {w : World} {v : Value} {f : Fx} {cs : List Value} (hM : M ≤ lo) (h : w.ownsRow lo T (m + 8) v f.len cs) (hr : RwRow (Old M) w m f cs) :
    ∃ ad cap, v = .slice ad f.len cap ∧ RowV M lo T m w ad cap f.len .nil f := by
  by_cases hf : f = .nil
  · subst hf
    rcases h.2 with ⟨rfl, _⟩ | ⟨g, cap, cur, rfl, _⟩
    · exact ⟨none, 0, rfl, .inl ⟨rfl, rfl, rfl⟩⟩
    · exact ⟨_, cap, rfl, .inl ⟨rfl, rfl, rfl⟩⟩
  · obtain ⟨g, cap, rfl, hst⟩ := RowSt.start hM h hr hf
    exact ⟨_, cap, rfl, .inr ⟨g, rfl, hst⟩⟩
theorem RowV.grow {M lo : Nat} {T : TypeId} {m : Nat} {w w' : World} {ad : Option Addr} {cap n : Nat} {f1 f2 : Fx} {row : Option Nat} (h : RowV M lo T m w ad cap n f1 f2) (t : w.grownBy w' row) (hr : ∀ q, row = some q → M ≤ q ∧ q < lo) : RowV M lo T m w' ad cap n f1 f2 := by
  rcases h with h | ⟨g, e, h⟩
  · exact .inl h
  · exact .inr ⟨g, e, h.grow t fun q hq => by have := hr q hq; have := h.low; omega⟩
theorem RowV.cons {M lo : Nat} {T : TypeId} {m : Nat} {w : World} {ad : Option Addr} {cap n : Nat} {f1 r : Fx} {p : Pre} {k : Int} {s : List UInt8} {n' op : Int} {ns : List (List UInt8)} {a b c : Fx} (h : RowV M lo T m w ad cap n f1 (.cons p k s n' op ns a b c r)) :
    ∃ g, ad = some ⟨g, 0, none⟩ ∧ RowSt M lo T m w g cap n f1 (.cons p k s n' op ns a b c r) := by
  rcases h with ⟨_, _, h⟩ | h
  · cases h
  · exact h
theorem RowV.value {M lo : Nat} {T : TypeId} {m : Nat} {w : World} {ad : Option Addr} {cap n : Nat} {f : Fx} (h : RowV M lo T m w ad cap n f .nil) {ok : Nat → Prop} (hok : ∀ b, Amid M lo w.heap.size b → ok b) : FxV ok w m (.slice ad n cap) f := by
  rcases h with ⟨rfl, rfl, _⟩ | ⟨g, rfl, h⟩
  · exact .inl ⟨rfl, _, _, rfl⟩
  · have h1 := h.low
    have h2 := h.lt
    refine h.value (fun b hb => hok b ?_) (hok g (.inr ⟨h1, h2⟩))
    rcases hb with hb | hb
    · exact .inl hb
    · exact .inr ⟨by omega, hb.2⟩
/-- The cells of a row that came in, for its clone. -/
theorem fxv_clone {M : Nat} {w : World} {m : Nat} {ad : Option Addr} {c : Nat} {f : Fx} (h : FxV (Old M) w m (.slice ad f.len c) f) : ∃ cs, RwRow (Old M) w m f cs ∧ cs.length = f.len * (m + 8) ∧ (∀ u ∈ cs, u.oneCell' = true) ∧ (f.len ≠ 0 → ∃ b o, ad = some ⟨b, o, none⟩ ∧ ∀ j u, cs[j]? = some u → w.cell? ⟨b, o + j, none⟩ = some u) := by
  obtain ⟨ad', c', cs, e, hr, hc⟩ := fxv_cells h
  cases e
  exact ⟨cs, hr, hr.length, hr.one, fun hn => let ⟨b, o, e, _, _, _, hj⟩ := hc hn; ⟨b, o, e, hj⟩⟩
/-- .. and of names. -/
theorem nsv_clone {ok : Nat → Prop} {w : World} {ad : Option Addr} {c : Nat} {ns : List (List UInt8)} (h : NsV ok w (.slice ad ns.length c) ns) : ns.length ≠ 0 → ∃ b o, ad = some ⟨b, o, none⟩ ∧ ∀ j u, (ns.map fun s => Value.string (bt s))[j]? = some u → w.cell? ⟨b, o + j, none⟩ = some u := by
  obtain ⟨ad', c', e, hc⟩ := nsv_cells h
  cases e
  exact hc
/-- What has been made stays made. -/
theorem amid_wide {M lo lo' hi hi' : Nat} {w w' : World} {row : Option Nat} (t : w.grownBy w' row) (hr : ∀ q, row = some q → M ≤ q ∧ (q < lo ∨ hi ≤ q)) (h1 : hi ≤ w.heap.size) (h2 : hi ≤ hi') (h3 : M ≤ w.heap.size) (h4 : lo' ≤ lo) : Keep (Amid M lo hi) (Amid M lo' hi') w w' := fun b hb =>
  ⟨by
    have := (amid_keep t hr h1 h2 h3 b hb).1
    rcases this with hb | hb
    · exact .inl hb
    · exact .inr ⟨by omega, hb.2⟩, (amid_keep t hr h1 h2 h3 b hb).2⟩
theorem grown_of_below {B : Nat} {w w' : World} (h : Below B w w') (hB : w.heap.size ≤ B) : w.grownBy w' none := ⟨h.os, h.tape, h.output, h.size, fun i hi _ => h.block i (by omega)⟩
theorem sets8_cell {w : World} {g o b i : Nat} {v0 v1 v2 v3 v4 v5 v6 v7 : Value} (h : b ≠ g) : ((((((((w.setCell ⟨g, o, none⟩ v0).setCell ⟨g, o + 1, none⟩ v1).setCell ⟨g, o + 2, none⟩ v2).setCell ⟨g, o + 3, none⟩ v3).setCell ⟨g, o + 4, none⟩ v4).setCell ⟨g, o + 5, none⟩ v5).setCell ⟨g, o + 6, none⟩ v6).setCell ⟨g, o + 7, none⟩ v7).cell? ⟨b, i, none⟩ = w.cell? ⟨b, i, none⟩ := by
  have e : ∀ (w : World) (o : Nat) (v : Value), (w.setCell ⟨g, o, none⟩ v).cell? ⟨b, i, none⟩ = w.cell? ⟨b, i, none⟩ := fun w o v => by
    simp only [World.cell?, heap_setCell_other w ⟨g, o, none⟩ b v h]
  rw [e, e, e, e, e, e, e, e]
/-- What is known behind the copy of a part. -/
structure PartD (M lo rb ybk yof : Nat) (x : List UInt8) (y : By) (YB : Nat) (W0 w' : World) (room : Int) (B6 B7 bk of : Nat) (k : Int) (s : List UInt8) (n op : Int) (vn va vb vc : Value) (ns : List (List UInt8)) (a b c : Fx) (c4 c5 c6 c7 : Value) (T : TypeId) (m g cap q : Nat) (f1 f2 : Fx) (un ua ub uc : Value) (z : By) : Prop where
  cp : CpW M rb ybk yof x y YB W0 w' room B6 B7 bk of k s n op vn va vb vc ns a b c c4 c5 c6 c7
  st : RowSt M lo T m w' g cap q f1 f2
  ex : ExV (Amid M (g + 1) w'.heap.size) w' un ua ub uc z.ns z.a z.b z.c
theorem part_done {M lo rb ybk yof : Nat} {x : List UInt8} {y : By} {YB : Nat} {W0 w w' : World} {room : Int} {B6 B7 bk of : Nat} {k : Int} {s : List UInt8} {n op : Int} {vn va vb vc : Value} {ns : List (List UInt8)} {a b c : Fx} {c4 c5 c6 c7 : Value} {T : TypeId} {m g cap q : Nat} {f1 f2 : Fx} {z : By} {o : Bool} {cnt : Nat} {e : Ending}
    (hP : CpW M rb ybk yof x y YB W0 w room B6 B7 bk of k s n op vn va vb vc ns a b c c4 c5 c6 c7) (hS : RowSt M lo T m w g cap q f1 f2) (hlow : B7 < lo) (h : CopyPost M rb ybk yof x YB o cnt z w room e w') :
    ∃ an cn aa ca ab cb ac cc room', e = .returned (.agg #[.int .i64 z.k, .string (bt z.s), .int .i64 z.n, .int .i64 z.op, .slice an z.ns.length cn, .slice aa z.a.len ca, .slice ab z.b.len cb, .slice ac z.c.len cc]) ∧
      PartD M lo rb ybk yof x y YB W0 w' room' B6 B7 bk of k s n op vn va vb vc ns a b c c4 c5 c6 c7 T m g cap q f1 f2 (.slice an z.ns.length cn) (.slice aa z.a.len ca) (.slice ab z.b.len cb) (.slice ac z.c.len cc) z ∧ room - need YB o cnt ≤ room' ∧ room' ≤ room ∧ w.grownBy w' (some rb) := by
  obtain ⟨un, ua, ub, uc, rfl, hx, ⟨room', hr, h1, h2⟩, hg⟩ := h
  obtain ⟨an, cn, rfl⟩ := hx.ns.slice
  obtain ⟨aa, ca, rfl⟩ := hx.a.slice
  obtain ⟨ab, cb, rfl⟩ := hx.b.slice
  obtain ⟨ac, cc, rfl⟩ := hx.c.slice
  have hl := hS.lt
  have hgl := hS.low
  have hM := hP.rp.hM
  have l6 := hP.l6
  have l7 := hP.l7
  have lr := hP.lr
  refine ⟨an, cn, aa, ca, ab, cb, ac, cc, room', rfl, ⟨hP.copy hg hr h2, hS.grow hg fun q e => ?_, hx.keep (keep_le w' fun b hb => ?_)⟩, h1, h2, hg⟩
  · cases e
    exact ⟨hM, by omega⟩
  · rcases hb with hb | hb
    · exact .inl hb
    · exact .inr ⟨by omega, hb.2⟩
/-- The cells of the part's place. -/
theorem RowSt.cells8 {M lo : Nat} {T : TypeId} {m : Nat} {w : World} {g cap n o : Nat} {f1 f2 : Fx} (h : RowSt M lo T m w g cap n f1 f2) (ho : o + 8 ≤ n * (m + 8)) : (∃ u0 u1 u2 u3 u4 u5 u6 u7, w.cell? ⟨g, o, none⟩ = some u0 ∧ w.cell? ⟨g, o + 1, none⟩ = some u1 ∧ w.cell? ⟨g, o + 2, none⟩ = some u2 ∧ w.cell? ⟨g, o + 3, none⟩ = some u3 ∧ w.cell? ⟨g, o + 4, none⟩ = some u4 ∧ w.cell? ⟨g, o + 5, none⟩ = some u5 ∧ w.cell? ⟨g, o + 6, none⟩ = some u6 ∧ w.cell? ⟨g, o + 7, none⟩ = some u7) ∧ ∀ j, w.frozen? ⟨g, j, none⟩ = false := by
  obtain ⟨u0, h0⟩ := h.cell o (by omega)
  obtain ⟨u1, h1⟩ := h.cell (o + 1) (by omega)
  obtain ⟨u2, h2⟩ := h.cell (o + 2) (by omega)
  obtain ⟨u3, h3⟩ := h.cell (o + 3) (by omega)
  obtain ⟨u4, h4⟩ := h.cell (o + 4) (by omega)
  obtain ⟨u5, h5⟩ := h.cell (o + 5) (by omega)
  obtain ⟨u6, h6⟩ := h.cell (o + 6) (by omega)
  obtain ⟨u7, h7⟩ := h.cell (o + 7) (by omega)
  exact ⟨⟨u0, u1, u2, u3, u4, u5, u6, u7, h0, h1, h2, h3, h4, h5, h6, h7⟩, h.frozen⟩
theorem sets12_cell {w : World} {g o b i : Nat} {v0 v1 v2 v3 v4 v5 v6 v7 v8 v9 v10 v11 : Value} (h : b ≠ g) : ((((((((((((w.setCell ⟨g, o, none⟩ v0).setCell ⟨g, o + 1, none⟩ v1).setCell ⟨g, o + 2, none⟩ v2).setCell ⟨g, o + 3, none⟩ v3).setCell ⟨g, o + 4, none⟩ v4).setCell ⟨g, o + 5, none⟩ v5).setCell ⟨g, o + 6, none⟩ v6).setCell ⟨g, o + 7, none⟩ v7).setCell ⟨g, o + 8, none⟩ v8).setCell ⟨g, o + 9, none⟩ v9).setCell ⟨g, o + 10, none⟩ v10).setCell ⟨g, o + 11, none⟩ v11).cell? ⟨b, i, none⟩ = w.cell? ⟨b, i, none⟩ := by
  have e : ∀ (w : World) (o : Nat) (v : Value), (w.setCell ⟨g, o, none⟩ v).cell? ⟨b, i, none⟩ = w.cell? ⟨b, i, none⟩ := fun w o v => by
    simp only [World.cell?, heap_setCell_other w ⟨g, o, none⟩ b v h]
  rw [e, e, e, e, e, e, e, e, e, e, e, e]
/-- What is known behind the copy of an alternative. -/
structure AltD (M lo rb ybk yof : Nat) (x : List UInt8) (y : By) (YB : Nat) (W0 w' : World) (room : Int) (B6 B7 bk of : Nat) (k : Int) (s : List UInt8) (n op : Int) (vn va vb vc : Value) (ns : List (List UInt8)) (a b c : Fx) (c4 c5 c6 c7 : Value) (T : TypeId) (m g cap q : Nat) (f1 f2 : Fx) (u1 un ua ub uc : Value) (ns1 : List (List UInt8)) (z : By) : Prop where
  cp : CpW M rb ybk yof x y YB W0 w' room B6 B7 bk of k s n op vn va vb vc ns a b c c4 c5 c6 c7
  st : RowSt M lo T m w' g cap q f1 f2
  nx : NsV (Amid M (g + 1) w'.heap.size) w' u1 ns1
  ex : ExV (Amid M (g + 1) w'.heap.size) w' un ua ub uc z.ns z.a z.b z.c
theorem alt_done {M lo rb ybk yof : Nat} {x : List UInt8} {y : By} {YB : Nat} {W0 w w' : World} {room : Int} {B6 B7 bk of : Nat} {k : Int} {s : List UInt8} {n op : Int} {vn va vb vc : Value} {ns : List (List UInt8)} {a b c : Fx} {c4 c5 c6 c7 : Value} {T : TypeId} {m g cap q : Nat} {f1 f2 : Fx} {z : By} {o : Bool} {cnt : Nat} {k1 : Int} {s1 : List UInt8} {n1 : Int} {ns1 : List (List UInt8)} {e : Ending}
    (hP : CpW M rb ybk yof x y YB W0 w room B6 B7 bk of k s n op vn va vb vc ns a b c c4 c5 c6 c7) (hS : RowSt M lo T m w g cap q f1 f2) (hlow : B7 < lo) (h : AltPost M rb ybk yof x YB o cnt k1 s1 n1 ns1 z w room e w') :
    ∃ a1 c1 an cn aa ca ab cb ac cc room', e = .returned (.agg #[.int .i64 k1, .string (bt s1), .int .i64 n1, .slice a1 ns1.length c1, .int .i64 z.k, .string (bt z.s), .int .i64 z.n, .int .i64 z.op, .slice an z.ns.length cn, .slice aa z.a.len ca, .slice ab z.b.len cb, .slice ac z.c.len cc]) ∧
      AltD M lo rb ybk yof x y YB W0 w' room' B6 B7 bk of k s n op vn va vb vc ns a b c c4 c5 c6 c7 T m g cap q f1 f2 (.slice a1 ns1.length c1) (.slice an z.ns.length cn) (.slice aa z.a.len ca) (.slice ab z.b.len cb) (.slice ac z.c.len cc) ns1 z ∧ room - need YB o cnt ≤ room' ∧ room' ≤ room ∧ w.grownBy w' (some rb) := by
  obtain ⟨u1, un, ua, ub, uc, rfl, hn, hx, ⟨room', hr, h1, h2⟩, hg⟩ := h
  obtain ⟨a1, c1, rfl⟩ := hn.slice
  obtain ⟨an, cn, rfl⟩ := hx.ns.slice
  obtain ⟨aa, ca, rfl⟩ := hx.a.slice
  obtain ⟨ab, cb, rfl⟩ := hx.b.slice
  obtain ⟨ac, cc, rfl⟩ := hx.c.slice
  have hl := hS.lt
  have hgl := hS.low
  have hM := hP.rp.hM
  have l6 := hP.l6
  have l7 := hP.l7
  have lr := hP.lr
  have hk : Keep (Amid M w.heap.size w'.heap.size) (Amid M (g + 1) w'.heap.size) w' w' := keep_le w' fun b hb => by
    rcases hb with hb | hb
    · exact .inl hb
    · exact .inr ⟨by omega, hb.2⟩
  refine ⟨a1, c1, an, cn, aa, ca, ab, cb, ac, cc, room', rfl, ⟨hP.copy hg hr h2, hS.grow hg fun q e => ?_, hn.keep hk, hx.keep hk⟩, h1, h2, hg⟩
  cases e
  exact ⟨hM, by omega⟩
/-- The cells of the part's place. -/
theorem RowSt.cells12 {M lo : Nat} {T : TypeId} {m : Nat} {w : World} {g cap n o : Nat} {f1 f2 : Fx} (h : RowSt M lo T m w g cap n f1 f2) (ho : o + 12 ≤ n * (m + 8)) : (∃ u0 u1 u2 u3 u4 u5 u6 u7 u8 u9 u10 u11, w.cell? ⟨g, o, none⟩ = some u0 ∧ w.cell? ⟨g, o + 1, none⟩ = some u1 ∧ w.cell? ⟨g, o + 2, none⟩ = some u2 ∧ w.cell? ⟨g, o + 3, none⟩ = some u3 ∧ w.cell? ⟨g, o + 4, none⟩ = some u4 ∧ w.cell? ⟨g, o + 5, none⟩ = some u5 ∧ w.cell? ⟨g, o + 6, none⟩ = some u6 ∧ w.cell? ⟨g, o + 7, none⟩ = some u7 ∧ w.cell? ⟨g, o + 8, none⟩ = some u8 ∧ w.cell? ⟨g, o + 9, none⟩ = some u9 ∧ w.cell? ⟨g, o + 10, none⟩ = some u10 ∧ w.cell? ⟨g, o + 11, none⟩ = some u11) ∧ ∀ j, w.frozen? ⟨g, j, none⟩ = false := by
  obtain ⟨u0, h0⟩ := h.cell o (by omega)
  obtain ⟨u1, h1⟩ := h.cell (o + 1) (by omega)
  obtain ⟨u2, h2⟩ := h.cell (o + 2) (by omega)
  obtain ⟨u3, h3⟩ := h.cell (o + 3) (by omega)
  obtain ⟨u4, h4⟩ := h.cell (o + 4) (by omega)
  obtain ⟨u5, h5⟩ := h.cell (o + 5) (by omega)
  obtain ⟨u6, h6⟩ := h.cell (o + 6) (by omega)
  obtain ⟨u7, h7⟩ := h.cell (o + 7) (by omega)
  obtain ⟨u8, h8⟩ := h.cell (o + 8) (by omega)
  obtain ⟨u9, h9⟩ := h.cell (o + 9) (by omega)
  obtain ⟨u10, h10⟩ := h.cell (o + 10) (by omega)
  obtain ⟨u11, h11⟩ := h.cell (o + 11) (by omega)
  exact ⟨⟨u0, u1, u2, u3, u4, u5, u6, u7, u8, u9, u10, u11, h0, h1, h2, h3, h4, h5, h6, h7, h8, h9, h10, h11⟩, h.frozen⟩
end Go.Proofs.YtfcogjlojfcfkaaGreat
end

section
namespace Go.Proofs.YtfcogjlojfcfkaaGreat
open Go

section
variable {P : Program} {ops : Array Oper} {md : Region.Mode} {S : World → Prop} {Q : Exit → Act → World → Prop}

/-- Operations that yield the same in every world that meets S, one after another. -/
def hwStill (P : Program) (ops : Array Oper) (S : World → Prop) (Q : Act → Prop) : List Oper → Act → Prop
  | [], a => Q a
  | o :: r, a => ∃ v, YieldsIf P ops S o v a ∧ hwStill P ops S Q r (a.put o.dst v)
/-- Such a walk, kept shut. -/
structure HWk (P : Program) (ops : Array Oper) (S : World → Prop) (Q : Act → Prop) (l : List Oper) (a : Act) : Prop where
  out : hwStill P ops S Q l a
theorem hwk_want {R : Act → Prop} {a : Act} {o : Oper} {rest : List Oper} {v : Value} (h : Region.wanted o (yielded ops a.tmps) = true) (hy : ∀ w, S w → (execOp a.eval o).run P w = .ok (.value v) w) (k : HWk P ops S R rest (a.put o.dst v)) : HWk P ops S R (o :: rest) a :=
  ⟨v, .inl ⟨h, hy⟩, k.out⟩
theorem hwk_skip {R : Act → Prop} {a : Act} {o : Oper} {rest : List Oper} (h : Region.wanted o (yielded ops a.tmps) = false) (k : HWk P ops S R rest (a.put o.dst undef)) : HWk P ops S R (o :: rest) a :=
  ⟨undef, .inr ⟨h, rfl⟩, k.out⟩
theorem hwk_nil {R : Act → Prop} {a : Act} (h : R a) : HWk P ops S R [] a := ⟨h⟩

/-- These can be taken one after another, and then K is so. -/
def takeB (md : Region.Mode) (ops : Array Oper) (K : Array Bool → Bool) : List Nat → Array Bool → Bool
  | [], listed => K listed
  | i :: is, listed => (Region.ready md ops listed).contains i && Region.free md ops listed i && takeB md ops K is (listed.setIfInBounds i true)
/-- Number m alone can come, then none. -/
def lastB (md : Region.Mode) (ops : Array Oper) (m : Nat) (listed : Array Bool) : Bool :=
  decide (Region.ready md ops listed = [m]) && decide (Region.ready md ops (listed.setIfInBounds m true) = [])
/-- Number n alone can come, then those of a list, then m alone. -/
def pairB (md : Region.Mode) (ops : Array Oper) (is2 : List Nat) (n m : Nat) (listed : Array Bool) : Bool :=
  decide (Region.ready md ops listed = [n]) && takeB md ops (lastB md ops m) is2 (listed.setIfInBounds n true)
def twoB (md : Region.Mode) (ops : Array Oper) (is is2 : List Nat) (n m : Nat) : Bool :=
  Region.noSelect ops && decide (is.length + is2.length + 2 = ops.size) && takeB md ops (pairB md ops is2 n m) is (Array.replicate ops.size false)

theorem anyH_takes {K : Array Bool → Bool} {R : Act → Prop} {f : Nat} {w : World} (hsel : Region.noSelect ops = true) (hQ : ∀ c a d v w, Q (.panic c) (a.put d v) w → Q (.panic c) a w) (hS : S w)
    (hR : ∀ listed a, K listed = true → R a → wpAnyH P md ops Q S f listed a w) :
    ∀ (is : List Nat) (l : List Oper) (listed : Array Bool) (a : Act), is.map (fun i => ops[i]?) = l.map some → takeB md ops K is listed = true → hwStill P ops S R l a → wpAnyH P md ops Q S (f + is.length) listed a w := by
  intro is
  induction is with
  | nil =>
    intro l listed a hl hB h
    cases l with
    | nil => exact hR listed a hB h
    | cons o l => cases hl
  | cons i is ih =>
    intro l listed a hl hB h
    cases l with
    | nil => cases hl
    | cons o l =>
      obtain ⟨v, hy, h⟩ := h
      simp only [List.map_cons, List.cons.injEq] at hl
      simp only [takeB, Bool.and_eq_true] at hB
      exact wpAnyH_take hl.1 hsel hB.1.2 hB.1.1 (fun c a w h => hQ c a _ _ w h) hy hS (ih l _ _ hl.2 hB.2 h)

/-- The one that comes first of the two. -/
structure TwoK (P : Program) (l t2 : List Oper) (S : World → Prop) (Q : Exit → Act → World → Prop) (n m : Nat) (a : Act) (w : World) : Prop where
  out : wpOp P l.toArray Q n (fun a2 w2 => S w2 ∧ hwStill P l.toArray S (fun a3 => wpOp P l.toArray Q m (fun a4 w4 => S w4 ∧ Q .normal a4 w4) a3 w2) t2 a2) a w
/-- The other. -/
structure LastK (P : Program) (l : List Oper) (S : World → Prop) (Q : Exit → Act → World → Prop) (m : Nat) (w : World) (a : Act) : Prop where
  out : wpOp P l.toArray Q m (fun a3 w3 => S w3 ∧ Q .normal a3 w3) a w
theorem hw_imp {R R' : Act → Prop} (hq : ∀ a, R a → R' a) : ∀ (l : List Oper) (a : Act), hwStill P ops S R l a → hwStill P ops S R' l a := by
  intro l
  induction l with
  | nil => intro a h; exact hq a h
  | cons o l ih => intro a h; obtain ⟨v, hy, h⟩ := h; exact ⟨v, hy, ih _ h⟩
theorem two_want {a : Act} {w : World} {l t2 : List Oper} {n m : Nat} {o : Oper} (ho : l.toArray[n]? = some o) (hw : Region.wanted o (yielded l.toArray a.tmps) = true)
    (h : ∀ K : Act → World → Prop, (∀ a2 w2, S w2 → HWk P l.toArray S (LastK P l S Q m w2) t2 a2 → K a2 w2) → o.wp P a w K Q) : TwoK P l t2 S Q n m a w := by
  refine ⟨?_⟩
  unfold wpOp
  simp only [ho, hw, if_true]
  exact .inl (h _ fun a2 w2 h1 h2 => ⟨h1, hw_imp (fun _ h => h.out) _ _ h2.out⟩)
theorem last_want {a : Act} {w : World} {l : List Oper} {m : Nat} {o : Oper} (ho : l.toArray[m]? = some o) (hw : Region.wanted o (yielded l.toArray a.tmps) = true)
    (h : ∀ K : Act → World → Prop, (∀ a2 w2, S w2 → Q .normal a2 w2 → K a2 w2) → o.wp P a w K Q) : LastK P l S Q m w a := by
  refine ⟨?_⟩
  unfold wpOp
  simp only [ho, hw, if_true]
  exact .inl (h _ fun a2 w2 h1 h2 => ⟨h1, h2⟩)
theorem region_two {id : Nat} {a : Act} {w : World} {l : List Oper} (S : World → Prop) (is is2 : List Nat) (t t2 : List Oper) (n m : Nat) (hm : P.follows .mixedOrders = true) (hB : twoB .any l.toArray is is2 n m = true) (ht : is.map (fun i => l.toArray[i]?) = t.map some) (ht2 : is2.map (fun i => l.toArray[i]?) = t2.map some)
    (hQ : ∀ c a d v w, Q (.panic c) (a.put d v) w → Q (.panic c) a w) (hS : S w.drew) (h : HWk P l.toArray S (fun a' => TwoK P l t2 S Q n m a' w.drew) t a) : (Code.region id l.toArray true).wp P Q a w := by
  simp only [twoB, Bool.and_eq_true, decide_eq_true_eq] at hB
  refine wp_region_held_drew (S := S) hm hS (fun _ => ?_)
  have e : l.toArray.size = (1 + is2.length) + 1 + is.length := by omega
  have hT := hB.2
  rw [e] at hT ⊢
  refine anyH_takes (f := (1 + is2.length) + 1) (K := pairB .any l.toArray is2 n m) (R := fun a' => TwoK P l t2 S Q n m a' w.drew) hB.1.1 hQ hS (fun listed a hp h => ?_) is t _ _ ht hT h.out
  simp only [pairB, Bool.and_eq_true, decide_eq_true_eq] at hp
  refine wpAnyH_all hp.1 (by simp) (fun i hi => ?_)
  obtain rfl : i = n := by simpa using hi
  refine wpOp_mono (fun a2 w2 h2 => ⟨h2.1, ?_⟩) h.out
  refine anyH_takes (f := 1) (K := lastB .any l.toArray m) (R := fun a3 => wpOp P l.toArray Q m (fun a4 w4 => S w4 ∧ Q .normal a4 w4) a3 w2) hB.1.1 hQ h2.1 (fun listed a hp h => ?_) is2 t2 _ _ ht2 hp.2 h2.2
  simp only [lastB, Bool.and_eq_true, decide_eq_true_eq] at hp
  refine wpAnyH_all hp.1 (by simp) (fun j hj => ?_)
  obtain rfl : j = m := by simpa using hj
  exact wpOp_mono (fun a3 w3 h3 => ⟨h3.1, wpAnyH_done hp.2 h3.2 _⟩) h
theorem range_some (l : List Oper) : ∀ (k s : Nat), s + k ≤ l.length → (List.range' s k).map (fun i => l.toArray[i]?) = ((l.drop s).take k).map some := by
  intro k
  induction k with
  | zero => intro s _; simp
  | succ k ih =>
    intro s hs
    have hlt : s < l.length := by omega
    rw [List.range'_succ, List.map_cons, ih (s + 1) (by omega), List.drop_eq_getElem_cons hlt, List.take_succ_cons, List.map_cons]
    simp [List.getElem?_eq_getElem hlt]
theorem region_pair {id : Nat} {a : Act} {w : World} {l : List Oper} (S : World → Prop) (n m : Nat) (hm : P.follows .mixedOrders = true) (hB : (decide (n < m) && decide (m < l.length) && twoB .any l.toArray (List.range' 0 n) (List.range' (n + 1) (m - n - 1)) n m) = true)
    (hQ : ∀ c a d v w, Q (.panic c) (a.put d v) w → Q (.panic c) a w) (hS : S w.drew) (h : HWk P l.toArray S (fun a' => TwoK P l ((l.drop (n + 1)).take (m - n - 1)) S Q n m a' w.drew) (l.take n) a) : (Code.region id l.toArray true).wp P Q a w := by
  simp only [Bool.and_eq_true, decide_eq_true_eq] at hB
  refine region_two S _ _ _ _ n m hm hB.2 ?_ ?_ hQ hS h
  · rw [range_some l n 0 (by omega), List.drop_zero]
  · rw [range_some l (m - n - 1) (n + 1) (by omega)]
end
end Go.Proofs.YtfcogjlojfcfkaaGreat
end
