/- A look-up among no notes; the iterator's maker. No condition. -/
import Derived.Test.YtfcogjlojfcfkaaGreatMB
import Derived.Carry
import Derived.Maps.OwnSet
import Derived.Test.YtfcogjlojfcfkaaGreatNI
import Derived.Test.YtfcogjlojfcfkaaGreatMR
import Derived.Laws.Rows
section
namespace Go.Proofs.YtfcogjlojfcfkaaGreat
open Go.RowKit Ex0

theorem under_notes : ∃ u, Tryz.prog.underlying 51 = some (.pointer u) := ⟨27, by kernel_rfl⟩
theorem under_known : Tryz.prog.underlying 45 = some (.map 51 49) := by kernel_rfl
theorem look_none (W : World) (kb : Nat) (ad : Option Addr) (h : W.heap[kb]? = some (.map #[] 0)) :
    (Instr.lookup 45 (.map (some kb)) (.pointer ad) true).run Tryz.prog W = .ok (.tuple #[.agg #[.int .i64 0, .bool false], .bool false]) W := by
  obtain ⟨u, hu⟩ := under_notes
  have hz := Tryz.zeroValue49 W
  have hc : (Instr.checkKey true 10000 51 (.pointer ad)).run Tryz.prog W = .ok () W := by
    show (Instr.checkKey true (9999 + 1) 51 (.pointer ad)).run Tryz.prog W = .ok () W
    unfold Instr.checkKey
    simp [run_underlying hu, Result.andThen]
  have hf : (Instr.findKey 51 (.pointer ad) []).run Tryz.prog W = .ok none W := by
    unfold Instr.findKey
    simp [run_underlying hu, Instr.findNow, Result.andThen]
  unfold Instr.lookup
  simp [run_underlying under_known, MapKept.run_getObj_map h, hc, hf, hz, Result.andThen]
theorem iparts_any (p1 p2 : Option Addr) (w : World) : Calls Tryz.prog 26 #[.pointer p1, .pointer p2] w fun e w' =>
    ∃ b1 b2, e = .returned (.func (.func 48) #[] #[.pointer (some ⟨b1, 0, none⟩), .pointer (some ⟨b2, 0, none⟩)]) ∧ w.heap.size ≤ b1 ∧ w.heap.size ≤ b2 ∧ b1 < w'.heap.size ∧ b2 < w'.heap.size ∧
      w'.cell? ⟨b1, 0, none⟩ = some (.pointer p1) ∧ w'.cell? ⟨b2, 0, none⟩ = some (.pointer p2) ∧ Below w.heap.size w w' := by
  go_enter Tryz.func26, Tryz.ntmps26
  go_wp2_with fail
  go_ret
  exact ⟨_, _, rfl, Nat.le_refl _, by omega, by simp; omega, by simp, by simp [go_sem], by simp [go_sem], ((Below.refl _ _).alloc (Nat.le_refl _) _).alloc (by simp) _⟩
end Go.Proofs.YtfcogjlojfcfkaaGreat
end

section
namespace Go.Proofs.YtfcogjlojfcfkaaGreat
open Go.RowKit Go.Shelf Ex0
attribute [local go_sem] bt_size bt_list bt_toList Oper.semAt_some

theorem sel_shape (q : Pre → Bool) (f : Fx) (h : Fxshape f = true) : Fxshape (f.sel q) = true := by
  induction f with
  | nil => rfl
  | cons p k s n op ns a b c r _ _ _ ih =>
    simp only [Fxshape, Bool.and_eq_true] at h
    simp only [Fx.sel]
    split
    · simp only [Fxshape, Bool.and_eq_true]
      exact ⟨h.1, ih h.2⟩
    · exact ih h.2
theorem vis_shape {x : List UInt8} {k : Int} {s : List UInt8} {n op : Int} {ns : List (List UInt8)} {a b c : Fx} (h : shapeB k s n op ns a b c = true) : Fxshape (vis x k s ns a b c) = true := by
  unfold shapeB parts at h
  rw [shape_bare, shape_app, shape_app] at h
  simp only [Bool.and_eq_true] at h
  obtain ⟨_, ha, hb, hc⟩ := h
  unfold vis
  rw [shape_app, sel_shape _ _ hc, Bool.and_true]
  split
  · rfl
  · rw [shape_app, ha, hb]; rfl
theorem vis_count (x : List UInt8) (k : Int) (s : List UInt8) (ns : List (List UInt8)) (a b c : Fx) : (vis x k s ns a b c).count ≤ (parts a b c).count := by
  unfold vis
  have h := sel_count (altSees x k s) c
  rw [Fx.count_app, parts_count]
  split
  · simp only [Fx.count]; omega
  · rw [Fx.count_app]; omega
theorem pres_cost (c : Fx) : ∀ p ∈ pres c, p.cost ≤ c.cost := by
  induction c with
  | nil => intro p h; cases h
  | cons p k s n op ns a b c r _ _ _ ih =>
    intro q hq
    rw [cost_cons]
    rcases List.mem_cons.1 hq with rfl | hq
    · omega
    · have := ih q hq; omega
theorem Ct.other {cb ab : Nat} {a b c : World} (h : Ct cb a b) (k : Ct ab b c) (hab : a.heap.size ≤ ab) : Ct cb a c :=
  ⟨⟨k.g.os.trans h.g.os, k.g.tape.trans h.g.tape, k.g.output.trans h.g.output, Nat.le_trans h.g.size k.g.size, fun i hi hn =>
    (k.g.block i (Nat.lt_of_lt_of_le hi h.g.size) (fun e => by cases e; omega)).trans (h.g.block i hi hn)⟩, h.k.trans k.k⟩
theorem Ctr.ct {w w' : World} {cb kb ab : Nat} {x : List UInt8} {p : Int} (h : Ctr w cb kb x p) (k : Ct ab w w') (hc : cb ≠ ab) (hk : kb ≠ ab) : Ctr w' cb kb x p :=
  ⟨k.obj hc h.1, k.obj hk h.2⟩

/-- What lies in memory while parts are counted: the counter, the boxes of the call that was entered at w, and how often so far. -/
structure CFr (w W : World) (cb kb : Nat) (x : List UInt8) (lv p t : Int) (i : Bool) : Prop where
  ct : Ct cb w W
  ctr : Ctr W cb kb x p
  b0 : W.heap[w.heap.size]? = some (.cells #[.pointer (some ⟨cb, 0, none⟩)] 44 (0, 0))
  b1 : W.heap[w.heap.size + 1]? = some (.cells #[.int .i64 lv] 3 (0, 0))
  b2 : AllAt W (w.heap.size + 1 + 1) 0 false
  al : AllAt W (w.heap.size + 1 + 1 + 1 + 1) t i
theorem CFr.step {w W W' : World} {cb kb : Nat} {x : List UInt8} {lv p t p' : Int} {i : Bool} (h : CFr w W cb kb x lv p t i) (hcb : cb < w.heap.size) (k : Ct cb W W') (hc : Ctr W' cb kb x p') : CFr w W' cb kb x lv p' t i :=
  ⟨h.ct.trans k, hc, k.obj (by omega) h.b0, k.obj (by omega) h.b1, k.obj (by omega) h.b2, k.obj (by omega) h.al⟩
theorem CFr.add {w W W' : World} {cb kb : Nat} {x : List UInt8} {lv p t t' : Int} {i i' : Bool} (h : CFr w W cb kb x lv p t i) (hcb : cb < w.heap.size) (hkb : kb < w.heap.size) (k : Ct (w.heap.size + 1 + 1 + 1 + 1) W W') (ha : AllAt W' (w.heap.size + 1 + 1 + 1 + 1) t' i') : CFr w W' cb kb x lv p t' i' :=
  ⟨h.ct.other k (by omega), h.ctr.ct k (by omega) (by omega), k.obj (by omega) h.b0, k.obj (by omega) h.b1, k.obj (by omega) h.b2, ha⟩
theorem CFr.own {w A B : World} {cb kb B0 : Nat} {x : List UInt8} {lv p t : Int} {i : Bool} {row : Option Nat} (h : CFr w A cb kb x lv p t i) (hcb : cb < w.heap.size) (hkb : kb < w.heap.size) (hB : w.heap.size ≤ B0) (hg : A.grownBy B row)
    (hr : ∀ r, row = some r → B0 ≤ r ∧ ∃ o : Obj, A.heap[r]? = some o ∧ o.isCells = false) : CFr w B cb kb x lv p t i := by
  have hr2 : ∀ r, row = some r → ∃ o : Obj, A.heap[r]? = some o ∧ o.isCells = false := fun r e => (hr r e).2
  have q : ∀ b, b < w.heap.size → B.heap[b]? = A.heap[b]? := fun b hb => hg.block b (Nat.lt_of_lt_of_le hb h.ct.size) (fun e => by have := (hr b e.symm).1; omega)
  refine ⟨⟨⟨hg.os.trans h.ct.g.os, hg.tape.trans h.ct.g.tape, hg.output.trans h.ct.g.output, Nat.le_trans h.ct.size hg.size, fun j hj hn => (q j hj).trans (h.ct.g.block j hj hn)⟩, ⟨Nat.le_trans h.ct.size hg.size, fun j o hj ho => (q j (Array.getElem?_eq_some_iff.1 hj).1).trans (h.ct.k.same j o hj ho)⟩⟩,
    ⟨(q cb hcb).trans h.ctr.1, (q kb hkb).trans h.ctr.2⟩, ?_, ?_, ?_, ?_⟩
  · exact (grownBy_keeps_cells hg hr2 h.b0 rfl).trans h.b0
  · exact (grownBy_keeps_cells hg hr2 h.b1 rfl).trans h.b1
  · exact (grownBy_keeps_cells hg hr2 h.b2 rfl).trans h.b2
  · exact (grownBy_keeps_cells hg hr2 h.al rfl).trans h.al
theorem CFr.same {w W W' : World} {cb kb : Nat} {x : List UInt8} {lv p t : Int} {i : Bool} (h : CFr w W cb kb x lv p t i) (e1 : W'.heap = W.heap) (e2 : W'.os = W.os) (e3 : W'.tape = W.tape) (e4 : W'.output = W.output) : CFr w W' cb kb x lv p t i :=
  ⟨h.ct.same e1 e2 e3 e4, ⟨by rw [e1]; exact h.ctr.1, by rw [e1]; exact h.ctr.2⟩, by rw [e1]; exact h.b0, by rw [e1]; exact h.b1, by unfold AllAt; rw [e1]; exact h.b2, by unfold AllAt; rw [e1]; exact h.al⟩
theorem cfr_cells {w W : World} {cb kb : Nat} {x : List UInt8} {lv p t : Int} {i : Bool} (h : CFr w W cb kb x lv p t i) :
    W.cell? ⟨w.heap.size, 0, none⟩ = some (.pointer (some ⟨cb, 0, none⟩)) ∧ W.cell? ⟨w.heap.size + 1, 0, none⟩ = some (.int .i64 lv) := by
  have h0 := h.b0
  have h1 := h.b1
  exact ⟨by simp [World.cell?, h0], by simp [World.cell?, h1]⟩
theorem hp_al {W : World} {b : Nat} {o : Obj} (h : W.heap[b]? = some o) (z : Obj) : (W.alloc z).heap[b]? = some o := (Below.heap_alloc W z b (Array.getElem?_eq_some_iff.1 h).1).trans h
theorem hp_set {W : World} {b c off : Nat} {o : Obj} (h : W.heap[b]? = some o) (hne : b ≠ c) (v : Value) : (W.setCell ⟨c, off, none⟩ v).heap[b]? = some o := (Below.heap_setCell W ⟨c, off, none⟩ v b hne).trans h
theorem hp_new (W : World) (z : Obj) {b : Nat} (hb : W.heap.size = b) : (W.alloc z).heap[b]? = some z := hb ▸ World.alloc_heap_new W z
theorem cfr_start (w : World) (cb kb : Nat) (x : List UInt8) (lv p : Int) (h : Ctr w cb kb x p) :
    CFr w ((((((w.alloc (.cells #[.pointer (some ⟨cb, 0, none⟩)] 44)).alloc (.cells #[.int .i64 lv] 3)).alloc (.cells #[.int .i64 0, .bool false] 49)).alloc (.cells #[.int .i64 0, .bool false] 49)).setCell ⟨cb, 1, none⟩ (.int .i64 (p - 1))).alloc (.cells #[.int .i64 0, .bool false] 49))
      cb kb x lv (p - 1) 0 false := by
  obtain ⟨hcl, hkl, hkc⟩ := ctr_lt h
  have h4 := ((((Ct.alloc cb w (.cells #[.pointer (some ⟨cb, 0, none⟩)] 44)).trans (Ct.alloc cb _ (.cells #[.int .i64 lv] 3))).trans (Ct.alloc cb _ (.cells #[.int .i64 0, .bool false] 49))).trans (Ct.alloc cb _ (.cells #[.int .i64 0, .bool false] 49)))
  have n0 : ¬ cb = w.heap.size := by omega
  have n1 : ¬ cb = w.heap.size + 1 := by omega
  have n2 : ¬ cb = w.heap.size + 1 + 1 := by omega
  refine ⟨(h4.set (.inl rfl) _).trans (Ct.alloc cb _ _), ((ctr_set ((((h.alloc _).alloc _).alloc _).alloc _) (p - 1)).alloc _), ?_, ?_, ?_, ?_⟩
  · exact hp_al (hp_set (hp_al (hp_al (hp_al (World.alloc_heap_new w _) _) _) _) (Ne.symm n0) _) _
  · exact hp_al (hp_set (hp_al (hp_al (hp_new _ _ (by simp)) _) _) (Ne.symm n1) _) _
  · exact hp_al (hp_set (hp_al (hp_new _ _ (by simp)) _) (Ne.symm n2) _) _
  · exact hp_new _ _ (by simp [World.setCell])

theorem Ct.put {cb D : Nat} {w W : World} (h : Ct cb w W) (hD : w.heap.size ≤ D) (o' : Obj) : Ct cb w (W.putObj D o') :=
  ⟨⟨h.g.os, h.g.tape, h.g.output, Nat.le_trans h.g.size (by simp), fun i hi hn => (World.putObj_heap_other (by omega)).trans (h.g.block i hi hn)⟩,
    ⟨Nat.le_trans h.k.size (by simp), fun i o hi ho => (World.putObj_heap_other (by have := (Array.getElem?_eq_some_iff.1 hi).1; omega)).trans (h.k.same i o hi ho)⟩⟩
noncomputable def cntFs : Array Field := (Tryz.prog.underlying 49).elim #[] fun | .struct fs => fs | _ => #[]
theorem under_cnt : Tryz.prog.underlying 49 = some (.struct cntFs) := by kernel_rfl
theorem size_cnt : (Tryz.prog.info? 49).map (·.size) = some 2 := by kernel_rfl
theorem cfr_end {w W : World} {cb kb D : Nat} {x : List UInt8} {lv q T : Int} {I : Bool} (h : CFr w W cb kb x lv q T I) (hcb : cb < w.heap.size) (hkb : kb < w.heap.size) (I2 : Bool) (hD : w.heap.size + 1 + 1 + 1 + 1 < D) (hK : W.heap[D]? = some (.deferred (some []))) :
    (((W.setCell ⟨w.heap.size + 1 + 1 + 1 + 1, 1, none⟩ (.bool I2)).setCell ⟨w.heap.size + 1 + 1, 0, none⟩ (.int .i64 T)).setCell ⟨w.heap.size + 1 + 1, 1, none⟩ (.bool I2)).heap[D]? = some (.deferred (some [])) ∧
    ((((W.setCell ⟨w.heap.size + 1 + 1 + 1 + 1, 1, none⟩ (.bool I2)).setCell ⟨w.heap.size + 1 + 1, 0, none⟩ (.int .i64 T)).setCell ⟨w.heap.size + 1 + 1, 1, none⟩ (.bool I2)).putObj D (.deferred none)).heap[w.heap.size + 1 + 1]? = some (.cells #[.int .i64 T, .bool I2] 49 (0, 0)) ∧
    Ct cb w ((((W.setCell ⟨w.heap.size + 1 + 1 + 1 + 1, 1, none⟩ (.bool I2)).setCell ⟨w.heap.size + 1 + 1, 0, none⟩ (.int .i64 T)).setCell ⟨w.heap.size + 1 + 1, 1, none⟩ (.bool I2)).putObj D (.deferred none)) ∧
    Ctr ((((W.setCell ⟨w.heap.size + 1 + 1 + 1 + 1, 1, none⟩ (.bool I2)).setCell ⟨w.heap.size + 1 + 1, 0, none⟩ (.int .i64 T)).setCell ⟨w.heap.size + 1 + 1, 1, none⟩ (.bool I2)).putObj D (.deferred none)) cb kb x q := by
  refine ⟨hp_set (hp_set (hp_set hK (by omega) _) (by omega) _) (by omega) _, (World.putObj_heap_other (by omega)).trans (all_set1 (all_set0 (hp_set h.b2 (by omega) _) T) I2),
    (((h.ct.set (.inr (by omega)) _).set (.inr (by omega)) _).set (.inr (by omega)) _).put (by omega) _, ?_, ?_⟩
  · exact (World.putObj_heap_other (by omega)).trans (hp_set (hp_set (hp_set h.ctr.1 (by omega) _) (by omega) _) (by omega) _)
  · exact (World.putObj_heap_other (by omega)).trans (hp_set (hp_set (hp_set h.ctr.2 (by omega) _) (by omega) _) (by omega) _)
theorem cfr_parts {w WV W1 : World} {cb kb b1 b2 : Nat} {x : List UInt8} {lv p t : Int} {i : Bool} (h : CFr w WV cb kb x lv p t i) (hb1 : WV.heap.size ≤ b1) (hb2 : WV.heap.size ≤ b2) (hb : Below WV.heap.size WV W1) (hcb : cb < w.heap.size) :
    CFr w W1 cb kb x lv p t i ∧ w.heap.size + 1 + 1 + 1 + 1 < b1 ∧ w.heap.size + 1 + 1 + 1 + 1 < b2 := by
  have hl := (Array.getElem?_eq_some_iff.1 h.al).1
  have hc := ctr_lt h.ctr
  exact ⟨h.step hcb (Ct.of_below hb) ⟨(hb.block cb hc.1).trans h.ctr.1, (hb.block kb hc.2.1).trans h.ctr.2⟩, by omega, by omega⟩
theorem count_next {x : List UInt8} {t1 : Fx} {y : Pt} : sumU x (t1.app (y.fx .nil)) = sumU x t1 + (usesE x y.k y.s y.ns y.a y.b y.c).1 ∧ anyU x false (t1.app (y.fx .nil)) = (anyU x false t1 || (usesE x y.k y.s y.ns y.a y.b y.c).2) := by
  rw [sumU_app, anyU_app]
  simp [Pt.fx, sumU, anyU]
theorem iter_any (cb kb M bx1 bx2 eb eo : Nat) (x : List UInt8) (k : Int) (s : List UInt8) (nn op : Int) (vn va vb vc : Value) (ns : List (List UInt8)) (a b c : Fx) (w0 : World) (J : Fx × Int → World → Prop) (K : World → Prop) (l : Nat) (p0 lo : Int) (W : World)
    (hM : M ≤ cb) (hMw : M ≤ w0.heap.size) (hown : ownB k s nn op ns a.len b.len c = true) (hcnt : (parts a b c).count ≤ 1048576) (hns : ns.length ≤ 1048576) (hans : ∀ p ∈ pres c, p.cost ≤ 1048576)
    (he : ExL M w0 eb eo k s nn op vn va vb vc ns a b c) (hb1 : w0.cell? ⟨bx1, 0, none⟩ = some (.pointer (some ⟨cb, 0, none⟩))) (hb2 : w0.cell? ⟨bx2, 0, none⟩ = some (.pointer (some ⟨eb, eo, none⟩))) (hne : bx1 ≠ cb ∧ bx2 ≠ cb)
    (hJc : ∀ s W, J s W → Ctr W cb kb x s.2 ∧ Lk cb M bx1 bx2 w0 W ∧ s.2 ≤ 1048576) (hJs : ∀ s W W' p', J s W → Ct cb W W' → Ctr W' cb kb x p' → p' ≤ s.2 → lo ≤ p' → J (s.1, p') W') (hKs : ∀ W W', K W → Ct cb W W' → K W')
    (hY : ∀ t y W, J t W → K W → okPt M w0 (vis x k s ns a b c) lo t y → YieldAt Fence.wide 2 Tryz.prog l y.enc W fun e W' => e = .returned (.bool true) ∧ ∃ t', nxPt t y t' ∧ J t' W' ∧ K W')
    (h0 : J (.nil, p0) W) (hK0 : K W) (hlo : 0 ≤ lo) (hp0 : (ns.length : Int) + b.len + (a.cost + b.cost + c.cost) + lo ≤ p0) :
    CallsIn Fence.wide 3 Tryz.prog 48 #[.func (.yield l) #[] #[], .pointer (some ⟨bx1, 0, none⟩), .pointer (some ⟨bx2, 0, none⟩)] W fun e W' => (∃ v, e = .returned v) ∧ ∃ t, t.1 = vis x k s ns a b c ∧ J t W' ∧ K W' := by
  cases hq : decide (x ∈ ns) with
  | true => exact iter_among cb kb M bx1 bx2 eb eo x k s nn op vn va vb vc ns a b c w0 J K l p0 lo W hM hMw hown hcnt hns hans he hb1 hb2 hne hJc hJs hKs hY h0 hK0 hlo hp0 hq
  | false =>
    cases hr : bindsX x b with
    | true => exact iter_bound cb kb M bx1 bx2 eb eo x k s nn op vn va vb vc ns a b c w0 J K l p0 lo W hM hMw hown hcnt hns hans he hb1 hb2 hne hJc hJs hKs hY h0 hK0 hlo hp0 hq hr
    | false => exact iter_vis cb kb M bx1 bx2 eb eo x k s nn op vn va vb vc ns a b c w0 J K l p0 lo W hM hMw hown hcnt hns hans he hb1 hb2 hne hJc hJs hKs hY h0 hK0 hlo hp0 hq hr

/-- What counting a name in an expression answers, for expressions with fewer parts than n. -/
def CountC (cb kb M : Nat) (x : List UInt8) (n : Nat) : Prop :=
  ∀ (bk of : Nat) (k : Int) (s : List UInt8) (nn op : Int) (vn va vb vc : Value) (ns : List (List UInt8)) (a b c : Fx) (lv p : Int) (w : World), (parts a b c).count < n → 0 ≤ lv → M ≤ cb → M ≤ kb → M ≤ w.heap.size →
    ExL M w bk of k s nn op vn va vb vc ns a b c → Ctr w cb kb x p → (costE ns a b c : Int) ≤ p → p ≤ 1048576 → shapeB k s nn op ns a b c = true → lv + (parts a b c).count ≤ 131072 →
    Calls Tryz.prog 16 #[.pointer (some ⟨cb, 0, none⟩), .pointer (some ⟨bk, of, none⟩), .int .i64 lv] w fun e w' =>
      e = .returned (.agg #[.int .i64 (usesE x k s ns a b c).1, .bool (usesE x k s ns a b c).2]) ∧ Ct cb w w' ∧ ∃ p', Ctr w' cb kb x p' ∧ p - costE ns a b c ≤ p' ∧ p' ≤ p

set_option maxHeartbeats 8000000 in
set_option maxRecDepth 100000 in
theorem count_any (cb kb M : Nat) (x : List UInt8) (n : Nat) : CountC cb kb M x n := by
  induction n with
  | zero => intro _ _ _ _ _ _ _ _ _ _ _ _ _ _ _ _ _ h; omega
  | succ n ih =>
    intro bk of k s nn op vn va vb vc ns a b c lv p w hn hlv0 hM hMk hMw hex hctr hcp hp1 hsh hlv
    obtain ⟨an, cn, rfl⟩ := hex.ex.ns.slice
    obtain ⟨aa, ca, rfl⟩ := hex.ex.a.slice
    obtain ⟨ab, cb', rfl⟩ := hex.ex.b.slice
    obtain ⟨ac, cc, rfl⟩ := hex.ex.c.slice
    have HE := Lib.hid hex
    have HCt := Lib.hid hctr
    have HSh := Lib.hid hsh
    obtain ⟨c0, c1, c2, c3, f1⟩ := ctr_cell hctr
    obtain ⟨hcl, hkl, hkc⟩ := ctr_lt hctr
    have HO := Lib.hid (show ownB k s nn op ns a.len b.len c = true by unfold shapeB at hsh; simp only [Bool.and_eq_true] at hsh; exact hsh.1)
    have hlook := look_none (((w.alloc (.cells #[.pointer (some ⟨cb, 0, none⟩)] 44)).alloc (.cells #[.int .i64 lv] 3)).alloc (.cells #[.int .i64 0, .bool false] 49)) kb (some ⟨bk, of, none⟩)
      ((Below.heap_alloc _ _ kb (by simp; omega)).trans ((Below.heap_alloc _ _ kb (by simp; omega)).trans ((Below.heap_alloc _ _ kb hkl).trans hctr.2)))
    have hb3 : Below w.heap.size w (((w.alloc (.cells #[.pointer (some ⟨cb, 0, none⟩)] 44)).alloc (.cells #[.int .i64 lv] 3)).alloc (.cells #[.int .i64 0, .bool false] 49)) := (((Below.refl _ _).alloc (Nat.le_refl _) _).alloc (by simp) _).alloc (by simp; omega) _
    have d2 := (hb3.cell (p := ⟨cb, 2, none⟩) hcl).trans c2
    have hb4 := hb3.alloc (by simp; omega) (.cells #[.int .i64 0, .bool false] 49)
    have d1 := (hb4.cell (p := ⟨cb, 1, none⟩) hcl).trans c1
    have df := (hb4.frozen (p := ⟨cb, 1, none⟩) hcl).trans f1
    have hlv1 : decide (lv > 131072) = false := decide_eq_false (by omega)
    have hlv2 : decide (131072 < lv) = false := decide_eq_false (by omega)
    have hcost : 1 ≤ costE ns a b c := by unfold costE; omega
    obtain ⟨W9, hW9⟩ : ∃ W9, ((((((w.alloc (.cells #[.pointer (some ⟨cb, 0, none⟩)] 44)).alloc (.cells #[.int .i64 lv] 3)).alloc (.cells #[.int .i64 0, .bool false] 49)).alloc (.cells #[.int .i64 0, .bool false] 49)).setCell ⟨cb, 1, none⟩ (.int .i64 (p - 1))).alloc (.cells #[.int .i64 0, .bool false] 49)) = W9 := ⟨_, rfl⟩
    have HF9 := Lib.hid (show CFr w W9 cb kb x lv (p - 1) 0 false from hW9 ▸ cfr_start w cb kb x lv p hctr)
    clear hex hctr hsh hb3 hb4
    refine (callsIn_wide (n := 4)).1 (callsIn_of_wp_marks Tryz.func16 rfl trivial (wpIn_wide.2 ?_) rfl)
    simp only [Tryz.ntmps16, List.size_toArray, List.length_cons, List.length_nil, Nat.reduceAdd, Nat.reduceSub, Array.replicate_succ, Array.replicate_zero, List.push_toArray, List.append_toArray, List.nil_append, List.cons_append]
    go_wp2_with fail
    clear hW9 c0 c1 c2 c3 f1 d1 d2 df hlook
    have HX9 := Lib.hid (HE.out.ct HF9.out.ct hM hMw)
    obtain ⟨e0, e1⟩ := cfr_cells HF9.out
    obtain ⟨c0, _⟩ := ctr_cell HF9.out.ctr
    obtain ⟨a0, a1, a2, a3⟩ := all_cell HF9.out.al
    have k0 := HX9.out.c0
    have k1 := HX9.out.c1
    cases hk1 : (k == 1) with
    | false =>
      have HF10 := Lib.hid (show CFr w W9 cb kb x lv (p - 1) (ownU x k s) false by unfold ownU; rw [hk1]; exact HF9.out)
      go_quiet (fail)
      go_wp2_with fail
      refine (iparts_any _ _ _).mono ?_
      rintro e W1 ⟨b1, b2, rfl, hb1, hb2, hl1, hl2, q1, q2, hbel⟩
      obtain ⟨hF, hs1, hs2⟩ := (fun (h : CFr w _ cb kb x lv (p - 1) (ownU x k s) false) => cfr_parts h hb1 hb2 hbel hcl) (HF10.out.same rfl rfl rfl rfl)
      have HF := Lib.hid hF
      have HL := Lib.hid (show Lk cb M b1 b2 W1 W1 from ⟨hM, by omega, by omega, hl1, hl2, Nat.le_trans hMw hF.ct.size, Nat.le_refl _, fun _ _ => rfl⟩)
      have HX := Lib.hid (HE.out.ct hF.ct hM hMw)
      have HQ := Lib.hid (And.intro q1 q2)
      have hW1 : w.heap.size ≤ W1.heap.size := hF.ct.size
      clear hbel hb1 hb2 hF q1 q2 HF10 k0 k1 e0 e1 c0 a0 a1 a2 a3
      go_wp2_with fail
      apply range_st (gf := 48) (lb := #[.pointer (some ⟨b1, 0, none⟩), .pointer (some ⟨b2, 0, none⟩)]) (encs := Pt.enc) (J := (fun t W => CFr w W cb kb x lv t.2 ((ownU x k s + sumU x t.1 : Nat) : Int) (anyU x false t.1) ∧ Lk cb M b1 b2 W1 W ∧ t.2 ≤ p - 1 ∧ p - costE ns a b c ≤ t.2))
        (ok := okPt M W1 (vis x k s ns a b c) (p - costE ns a b c)) (nx := nxPt) (done := fun t => t.1 = vis x k s ns a b c) (s0 := (.nil, p - 1))
      case hg => rfl
      case eg => exact enters_of Tryz.func48 (by kernel_rfl) rfl
      case hps => intro _; rfl
      case hJ =>
        rintro t A B row ⟨h1, h2, h3, h4⟩ hg hr
        exact ⟨h1.own hcl hkl hW1 hg hr, ⟨h2.hM, h2.h1, h2.h2, h2.l1, h2.l2, h2.lM, Nat.le_trans h2.size hg.size, fun b hb => (hg.block b (by have := h2.size; have := h2.l1; have := h2.l2; have := h2.lM; omega) (fun e => by have := (hr b e.symm).1; have := h2.l1; have := h2.l2; have := h2.lM; omega)).trans (h2.blk b hb)⟩, h3, h4⟩
      case h0 => exact ⟨by simpa [sumU, anyU] using HF.out, HL.out, Int.le_refl _, by dsimp only; omega⟩
      case hseq =>
        intro l K W2 hK hW2 hj hk hY
        have hcE : costE ns a b c = 1 + ns.length + b.len + (a.cost + b.cost + c.cost) := rfl
        refine iter_any cb kb M b1 b2 bk of x k s nn op _ _ _ _ ns a b c W1 _ K l (p - 1) (p - costE ns a b c) W2 hM (Nat.le_trans hMw hW1) HO.out (by omega) (by omega) (fun q hq => by have := pres_cost c q hq; omega) HX.out HQ.out.1 HQ.out.2 ⟨by omega, by omega⟩
          (fun t W h => ⟨h.1.ctr, h.2.1, by have := h.2.2.1; omega⟩) (fun t W W' p' h ct cr h1 h2 => ⟨h.1.step hcl ct cr, h.2.1.ct ct, by have := h.2.2.1; dsimp only; omega, h2⟩) (fun W W' h ct => hK W W' h (ct.k.from _)) hY hj hk (by omega) (by omega)
      case hassign =>
        intro l y W K hK
        simp only [Pt.enc]
        gi_wp2
        exact hK
      case hbody =>
        rintro l ⟨V1, q⟩ y W ⟨h1, h2, h3, h4⟩ ⟨⟨r, hV⟩, ⟨wn, wa, wb, wc, hx⟩, hyc⟩
        dsimp only at h1 h3 h4 hV hyc
        obtain ⟨e0, e1⟩ := cfr_cells h1
        have hcv : V1.count + (1 + (parts y.a y.b y.c).count + r.count) ≤ (parts a b c).count := by
          have q1 := vis_count x k s ns a b c
          rw [hV, Fx.count_app] at q1
          simp only [Pt.fx, Fx.count] at q1
          rw [parts_count]
          omega
        have hsy : shapeB y.k y.s y.n y.op y.ns y.a y.b y.c = true := by
          have q1 := vis_shape (x := x) HSh.out
          rw [hV, shape_app] at q1
          unfold Pt.fx at q1
          rw [shape_cons] at q1
          simp only [Bool.and_eq_true] at q1
          exact q1.2.1
        have hcy : Pt.cost y = costE y.ns y.a y.b y.c := rfl
        obtain ⟨⟨u1, u2⟩, hU⟩ : ∃ U, usesE x y.k y.s y.ns y.a y.b y.c = U := ⟨_, rfl⟩
        have hu1 : u1 ≤ 131072 := by
          have q1 := usesE_le x y.k y.s y.ns y.a y.b y.c
          rw [hU] at q1
          rw [parts_count] at hcv
          dsimp only at q1
          omega
        have ht1 : ownU x k s + sumU x V1 ≤ 131073 := by
          have q1 := sumU_le x V1
          have q2 : ownU x k s ≤ 1 := by unfold ownU; split <;> omega
          omega
        have hih := ih y.bk y.of y.k y.s y.n y.op wn wa wb wc y.ns y.a y.b y.c (lv + 1) q W (by omega) (by omega) hM hMk (Nat.le_trans hMw h1.ct.size) (hx.lk h2) h1.ctr (by omega) (by omega) hsy (by omega)
        rw [hU] at hih
        have HIH := Lib.hid hih
        have HH := Lib.hid (And.intro h1 (And.intro h2 (And.intro h3 h4)))
        have HYc := Lib.hid hyc
        have HUy := Lib.hid hU
        clear hih h1 h2 h3 h4 hx hU hsy hV hyc hcv
        gi_wp2_with (first
          | (refine ⟨trivial, ?_⟩; gi_at_call 16; refine (CallsIn.inRound l (callsIn_wide.2 HIH.out)).mono ?_; rintro e W2 ⟨rfl, ct2, p2, cr2, g1, g2⟩; have HF2 := Lib.hid (HH.out.1.step hcl ct2 cr2); have HA2 := Lib.hid (And.intro ct2 (And.intro g1 g2)); clear ct2 cr2 g1 g2)
          | (refine ⟨trivial, ?_⟩; gi_at_call 27; refine (CallsIn.inRound l (callsIn_wide.2 (add_any _ _ _ _ _ _ HF2.out.al ⟨by omega, by omega⟩ ⟨by omega, by omega⟩))).mono ?_; rintro e W3 ⟨⟨v3, rfl⟩, ha, ct3⟩; have HF3 := Lib.hid (HF2.out.add hcl hkl ct3 ha); have HA3 := Lib.hid ct3; have q0 := (cfr_cells HF3.out).1; have q3 := (ctr_cell HF3.out.ctr).2.2.2.1; clear ha ct3))
        have z1 : ((ownU x k s + sumU x (V1.app (y.fx .nil)) : Nat) : Int) = ((ownU x k s + sumU x V1 : Nat) : Int) + u1 := by rw [count_next.1, HUy.out]; dsimp only; omega
        have z2 : anyU x false (V1.app (y.fx .nil)) = (anyU x false V1 || u2) := by rw [count_next.2, HUy.out]
        have hA := HA2.out.2
        have hY := HYc.out
        have hH := HH.out.2.2
        exact ⟨(HA2.out.1.k.trans HA3.out.k).from _, (V1.app (y.fx .nil), p2), ⟨rfl, by dsimp only; omega, by dsimp only; omega⟩, by dsimp only; rw [z1, z2]; exact HF3.out, (HH.out.2.1.ct HA2.out.1).step HA3.out ⟨by omega, by omega, by omega⟩, by dsimp only; omega, by dsimp only; omega⟩
      case hdone =>
        rintro D ⟨V1, q⟩ W hD hV ⟨h1, h2, h3, h4⟩ hK
        dsimp only at h1 h3 h4 hV
        subst hV
        have HUse := Lib.hid (uses_vis (x := x) HO.out)
        obtain ⟨T, hT⟩ : ∃ T, ownU x k s + sumU x (vis x k s ns a b c) = T := ⟨_, rfl⟩
        obtain ⟨I, hI⟩ : ∃ I, anyU x false (vis x k s ns a b c) = I := ⟨_, rfl⟩
        rw [hT, hI] at h1
        rw [hT, hI] at HUse
        have hT1 : T ≤ 131073 := by
          have q1 := sumU_le x (vis x k s ns a b c)
          have q2 := vis_count x k s ns a b c
          have q3 : ownU x k s ≤ 1 := by unfold ownU; split <;> omega
          omega
        have kk := (HX.out.lk h2).c0
        obtain ⟨e0, e1⟩ := cfr_cells h1
        obtain ⟨c0, c1, _⟩ := ctr_cell h1.ctr
        obtain ⟨a0, a1, a2, a3⟩ := all_cell h1.al
        obtain ⟨r0, r1, r2, r3⟩ := all_cell h1.b2
        have hq0 : decide (q < 0) = false := decide_eq_false (by omega)
        have HH := Lib.hid (And.intro h1 (And.intro h2 (And.intro h3 h4)))
        have HKd := Lib.hid hK
        clear h1 h2 hK hT hI
        cases I
        all_goals
          cases h3k : (k == 3)
          all_goals
            by_cases hTp : 0 < T
            all_goals
              first
              | have hTd : decide (0 < T) = true := decide_eq_true hTp
                have hTd2 : decide ((0 : Int) < T) = true := decide_eq_true (by omega)
              | have hTd : decide (0 < T) = false := decide_eq_false hTp
                have hTd2 : decide ((0 : Int) < T) = false := decide_eq_false (by omega)
              rw [h3k, hTd] at HUse
              clear hTp
              go_wp2_with fail
              first
                | exact (have g := cfr_end HH.out.1 hcl hkl true (by omega) HKd.out; ⟨by simp, .inl ⟨_, _, rfl, run_takeDeferred g.1, _, results_cell_row rfl _ _ (w.heap.size + 1 + 1) _ _ _ (.struct cntFs) rfl g.2.1 under_cnt rfl size_cnt, by rw [HUse.out]; rfl, g.2.2.1, q, g.2.2.2, HH.out.2.2.2, by omega⟩⟩)
                | exact (have g := cfr_end HH.out.1 hcl hkl false (by omega) HKd.out; ⟨by simp, .inl ⟨_, _, rfl, run_takeDeferred g.1, _, results_cell_row rfl _ _ (w.heap.size + 1 + 1) _ _ _ (.struct cntFs) rfl g.2.1 under_cnt rfl size_cnt, by rw [HUse.out]; rfl, g.2.2.1, q, g.2.2.2, HH.out.2.2.2, by omega⟩⟩)
    | true =>
      by_cases hsx : s = x
      · have hb : (s == x) = true := by simpa using hsx
        have HF10 := Lib.hid (show CFr w (W9.setCell ⟨w.heap.size + 1 + 1 + 1 + 1, 0, none⟩ (.int .i64 1)) cb kb x lv (p - 1) (ownU x k s) false by
          unfold ownU
          rw [hk1, decide_eq_true hsx]
          exact HF9.out.add hcl hkl ((Ct.refl _ _).set (.inl rfl) _) (all_set0 HF9.out.al 1))
        clear hsx
        go_quiet (fail)
        go_wp2_with fail
        refine (iparts_any _ _ _).mono ?_
        rintro e W1 ⟨b1, b2, rfl, hb1, hb2, hl1, hl2, q1, q2, hbel⟩
        obtain ⟨hF, hs1, hs2⟩ := (fun (h : CFr w _ cb kb x lv (p - 1) (ownU x k s) false) => cfr_parts h hb1 hb2 hbel hcl) (HF10.out.same rfl rfl rfl rfl)
        have HF := Lib.hid hF
        have HL := Lib.hid (show Lk cb M b1 b2 W1 W1 from ⟨hM, by omega, by omega, hl1, hl2, Nat.le_trans hMw hF.ct.size, Nat.le_refl _, fun _ _ => rfl⟩)
        have HX := Lib.hid (HE.out.ct hF.ct hM hMw)
        have HQ := Lib.hid (And.intro q1 q2)
        have hW1 : w.heap.size ≤ W1.heap.size := hF.ct.size
        clear hbel hb1 hb2 hF q1 q2 HF10 k0 k1 e0 e1 c0 a0 a1 a2 a3
        go_wp2_with fail
        apply range_st (gf := 48) (lb := #[.pointer (some ⟨b1, 0, none⟩), .pointer (some ⟨b2, 0, none⟩)]) (encs := Pt.enc) (J := (fun t W => CFr w W cb kb x lv t.2 ((ownU x k s + sumU x t.1 : Nat) : Int) (anyU x false t.1) ∧ Lk cb M b1 b2 W1 W ∧ t.2 ≤ p - 1 ∧ p - costE ns a b c ≤ t.2))
          (ok := okPt M W1 (vis x k s ns a b c) (p - costE ns a b c)) (nx := nxPt) (done := fun t => t.1 = vis x k s ns a b c) (s0 := (.nil, p - 1))
        case hg => rfl
        case eg => exact enters_of Tryz.func48 (by kernel_rfl) rfl
        case hps => intro _; rfl
        case hJ =>
          rintro t A B row ⟨h1, h2, h3, h4⟩ hg hr
          exact ⟨h1.own hcl hkl hW1 hg hr, ⟨h2.hM, h2.h1, h2.h2, h2.l1, h2.l2, h2.lM, Nat.le_trans h2.size hg.size, fun b hb => (hg.block b (by have := h2.size; have := h2.l1; have := h2.l2; have := h2.lM; omega) (fun e => by have := (hr b e.symm).1; have := h2.l1; have := h2.l2; have := h2.lM; omega)).trans (h2.blk b hb)⟩, h3, h4⟩
        case h0 => exact ⟨by simpa [sumU, anyU] using HF.out, HL.out, Int.le_refl _, by dsimp only; omega⟩
        case hseq =>
          intro l K W2 hK hW2 hj hk hY
          have hcE : costE ns a b c = 1 + ns.length + b.len + (a.cost + b.cost + c.cost) := rfl
          refine iter_any cb kb M b1 b2 bk of x k s nn op _ _ _ _ ns a b c W1 _ K l (p - 1) (p - costE ns a b c) W2 hM (Nat.le_trans hMw hW1) HO.out (by omega) (by omega) (fun q hq => by have := pres_cost c q hq; omega) HX.out HQ.out.1 HQ.out.2 ⟨by omega, by omega⟩
            (fun t W h => ⟨h.1.ctr, h.2.1, by have := h.2.2.1; omega⟩) (fun t W W' p' h ct cr h1 h2 => ⟨h.1.step hcl ct cr, h.2.1.ct ct, by have := h.2.2.1; dsimp only; omega, h2⟩) (fun W W' h ct => hK W W' h (ct.k.from _)) hY hj hk (by omega) (by omega)
        case hassign =>
          intro l y W K hK
          simp only [Pt.enc]
          gi_wp2
          exact hK
        case hbody =>
          rintro l ⟨V1, q⟩ y W ⟨h1, h2, h3, h4⟩ ⟨⟨r, hV⟩, ⟨wn, wa, wb, wc, hx⟩, hyc⟩
          dsimp only at h1 h3 h4 hV hyc
          obtain ⟨e0, e1⟩ := cfr_cells h1
          have hcv : V1.count + (1 + (parts y.a y.b y.c).count + r.count) ≤ (parts a b c).count := by
            have q1 := vis_count x k s ns a b c
            rw [hV, Fx.count_app] at q1
            simp only [Pt.fx, Fx.count] at q1
            rw [parts_count]
            omega
          have hsy : shapeB y.k y.s y.n y.op y.ns y.a y.b y.c = true := by
            have q1 := vis_shape (x := x) HSh.out
            rw [hV, shape_app] at q1
            unfold Pt.fx at q1
            rw [shape_cons] at q1
            simp only [Bool.and_eq_true] at q1
            exact q1.2.1
          have hcy : Pt.cost y = costE y.ns y.a y.b y.c := rfl
          obtain ⟨⟨u1, u2⟩, hU⟩ : ∃ U, usesE x y.k y.s y.ns y.a y.b y.c = U := ⟨_, rfl⟩
          have hu1 : u1 ≤ 131072 := by
            have q1 := usesE_le x y.k y.s y.ns y.a y.b y.c
            rw [hU] at q1
            rw [parts_count] at hcv
            dsimp only at q1
            omega
          have ht1 : ownU x k s + sumU x V1 ≤ 131073 := by
            have q1 := sumU_le x V1
            have q2 : ownU x k s ≤ 1 := by unfold ownU; split <;> omega
            omega
          have hih := ih y.bk y.of y.k y.s y.n y.op wn wa wb wc y.ns y.a y.b y.c (lv + 1) q W (by omega) (by omega) hM hMk (Nat.le_trans hMw h1.ct.size) (hx.lk h2) h1.ctr (by omega) (by omega) hsy (by omega)
          rw [hU] at hih
          have HIH := Lib.hid hih
          have HH := Lib.hid (And.intro h1 (And.intro h2 (And.intro h3 h4)))
          have HYc := Lib.hid hyc
          have HUy := Lib.hid hU
          clear hih h1 h2 h3 h4 hx hU hsy hV hyc hcv
          gi_wp2_with (first
            | (refine ⟨trivial, ?_⟩; gi_at_call 16; refine (CallsIn.inRound l (callsIn_wide.2 HIH.out)).mono ?_; rintro e W2 ⟨rfl, ct2, p2, cr2, g1, g2⟩; have HF2 := Lib.hid (HH.out.1.step hcl ct2 cr2); have HA2 := Lib.hid (And.intro ct2 (And.intro g1 g2)); clear ct2 cr2 g1 g2)
            | (refine ⟨trivial, ?_⟩; gi_at_call 27; refine (CallsIn.inRound l (callsIn_wide.2 (add_any _ _ _ _ _ _ HF2.out.al ⟨by omega, by omega⟩ ⟨by omega, by omega⟩))).mono ?_; rintro e W3 ⟨⟨v3, rfl⟩, ha, ct3⟩; have HF3 := Lib.hid (HF2.out.add hcl hkl ct3 ha); have HA3 := Lib.hid ct3; have q0 := (cfr_cells HF3.out).1; have q3 := (ctr_cell HF3.out.ctr).2.2.2.1; clear ha ct3))
          have z1 : ((ownU x k s + sumU x (V1.app (y.fx .nil)) : Nat) : Int) = ((ownU x k s + sumU x V1 : Nat) : Int) + u1 := by rw [count_next.1, HUy.out]; dsimp only; omega
          have z2 : anyU x false (V1.app (y.fx .nil)) = (anyU x false V1 || u2) := by rw [count_next.2, HUy.out]
          have hA := HA2.out.2
          have hY := HYc.out
          have hH := HH.out.2.2
          exact ⟨(HA2.out.1.k.trans HA3.out.k).from _, (V1.app (y.fx .nil), p2), ⟨rfl, by dsimp only; omega, by dsimp only; omega⟩, by dsimp only; rw [z1, z2]; exact HF3.out, (HH.out.2.1.ct HA2.out.1).step HA3.out ⟨by omega, by omega, by omega⟩, by dsimp only; omega, by dsimp only; omega⟩
        case hdone =>
          rintro D ⟨V1, q⟩ W hD hV ⟨h1, h2, h3, h4⟩ hK
          dsimp only at h1 h3 h4 hV
          subst hV
          have HUse := Lib.hid (uses_vis (x := x) HO.out)
          obtain ⟨T, hT⟩ : ∃ T, ownU x k s + sumU x (vis x k s ns a b c) = T := ⟨_, rfl⟩
          obtain ⟨I, hI⟩ : ∃ I, anyU x false (vis x k s ns a b c) = I := ⟨_, rfl⟩
          rw [hT, hI] at h1
          rw [hT, hI] at HUse
          have hT1 : T ≤ 131073 := by
            have q1 := sumU_le x (vis x k s ns a b c)
            have q2 := vis_count x k s ns a b c
            have q3 : ownU x k s ≤ 1 := by unfold ownU; split <;> omega
            omega
          have kk := (HX.out.lk h2).c0
          obtain ⟨e0, e1⟩ := cfr_cells h1
          obtain ⟨c0, c1, _⟩ := ctr_cell h1.ctr
          obtain ⟨a0, a1, a2, a3⟩ := all_cell h1.al
          obtain ⟨r0, r1, r2, r3⟩ := all_cell h1.b2
          have hq0 : decide (q < 0) = false := decide_eq_false (by omega)
          have HH := Lib.hid (And.intro h1 (And.intro h2 (And.intro h3 h4)))
          have HKd := Lib.hid hK
          clear h1 h2 hK hT hI
          cases I
          all_goals
            cases h3k : (k == 3)
            all_goals
              by_cases hTp : 0 < T
              all_goals
                first
                | have hTd : decide (0 < T) = true := decide_eq_true hTp
                  have hTd2 : decide ((0 : Int) < T) = true := decide_eq_true (by omega)
                | have hTd : decide (0 < T) = false := decide_eq_false hTp
                  have hTd2 : decide ((0 : Int) < T) = false := decide_eq_false (by omega)
                rw [h3k, hTd] at HUse
                clear hTp
                go_wp2_with fail
                first
                  | exact (have g := cfr_end HH.out.1 hcl hkl true (by omega) HKd.out; ⟨by simp, .inl ⟨_, _, rfl, run_takeDeferred g.1, _, results_cell_row rfl _ _ (w.heap.size + 1 + 1) _ _ _ (.struct cntFs) rfl g.2.1 under_cnt rfl size_cnt, by rw [HUse.out]; rfl, g.2.2.1, q, g.2.2.2, HH.out.2.2.2, by omega⟩⟩)
                  | exact (have g := cfr_end HH.out.1 hcl hkl false (by omega) HKd.out; ⟨by simp, .inl ⟨_, _, rfl, run_takeDeferred g.1, _, results_cell_row rfl _ _ (w.heap.size + 1 + 1) _ _ _ (.struct cntFs) rfl g.2.1 under_cnt rfl size_cnt, by rw [HUse.out]; rfl, g.2.2.1, q, g.2.2.2, HH.out.2.2.2, by omega⟩⟩)
      · have hb : (s == x) = false := by simpa using hsx
        have HF10 := Lib.hid (show CFr w W9 cb kb x lv (p - 1) (ownU x k s) false by unfold ownU; rw [hk1, decide_eq_false hsx]; exact HF9.out)
        clear hsx
        go_quiet (fail)
        go_wp2_with fail
        refine (iparts_any _ _ _).mono ?_
        rintro e W1 ⟨b1, b2, rfl, hb1, hb2, hl1, hl2, q1, q2, hbel⟩
        obtain ⟨hF, hs1, hs2⟩ := (fun (h : CFr w _ cb kb x lv (p - 1) (ownU x k s) false) => cfr_parts h hb1 hb2 hbel hcl) (HF10.out.same rfl rfl rfl rfl)
        have HF := Lib.hid hF
        have HL := Lib.hid (show Lk cb M b1 b2 W1 W1 from ⟨hM, by omega, by omega, hl1, hl2, Nat.le_trans hMw hF.ct.size, Nat.le_refl _, fun _ _ => rfl⟩)
        have HX := Lib.hid (HE.out.ct hF.ct hM hMw)
        have HQ := Lib.hid (And.intro q1 q2)
        have hW1 : w.heap.size ≤ W1.heap.size := hF.ct.size
        clear hbel hb1 hb2 hF q1 q2 HF10 k0 k1 e0 e1 c0 a0 a1 a2 a3
        go_wp2_with fail
        apply range_st (gf := 48) (lb := #[.pointer (some ⟨b1, 0, none⟩), .pointer (some ⟨b2, 0, none⟩)]) (encs := Pt.enc) (J := (fun t W => CFr w W cb kb x lv t.2 ((ownU x k s + sumU x t.1 : Nat) : Int) (anyU x false t.1) ∧ Lk cb M b1 b2 W1 W ∧ t.2 ≤ p - 1 ∧ p - costE ns a b c ≤ t.2))
          (ok := okPt M W1 (vis x k s ns a b c) (p - costE ns a b c)) (nx := nxPt) (done := fun t => t.1 = vis x k s ns a b c) (s0 := (.nil, p - 1))
        case hg => rfl
        case eg => exact enters_of Tryz.func48 (by kernel_rfl) rfl
        case hps => intro _; rfl
        case hJ =>
          rintro t A B row ⟨h1, h2, h3, h4⟩ hg hr
          exact ⟨h1.own hcl hkl hW1 hg hr, ⟨h2.hM, h2.h1, h2.h2, h2.l1, h2.l2, h2.lM, Nat.le_trans h2.size hg.size, fun b hb => (hg.block b (by have := h2.size; have := h2.l1; have := h2.l2; have := h2.lM; omega) (fun e => by have := (hr b e.symm).1; have := h2.l1; have := h2.l2; have := h2.lM; omega)).trans (h2.blk b hb)⟩, h3, h4⟩
        case h0 => exact ⟨by simpa [sumU, anyU] using HF.out, HL.out, Int.le_refl _, by dsimp only; omega⟩
        case hseq =>
          intro l K W2 hK hW2 hj hk hY
          have hcE : costE ns a b c = 1 + ns.length + b.len + (a.cost + b.cost + c.cost) := rfl
          refine iter_any cb kb M b1 b2 bk of x k s nn op _ _ _ _ ns a b c W1 _ K l (p - 1) (p - costE ns a b c) W2 hM (Nat.le_trans hMw hW1) HO.out (by omega) (by omega) (fun q hq => by have := pres_cost c q hq; omega) HX.out HQ.out.1 HQ.out.2 ⟨by omega, by omega⟩
            (fun t W h => ⟨h.1.ctr, h.2.1, by have := h.2.2.1; omega⟩) (fun t W W' p' h ct cr h1 h2 => ⟨h.1.step hcl ct cr, h.2.1.ct ct, by have := h.2.2.1; dsimp only; omega, h2⟩) (fun W W' h ct => hK W W' h (ct.k.from _)) hY hj hk (by omega) (by omega)
        case hassign =>
          intro l y W K hK
          simp only [Pt.enc]
          gi_wp2
          exact hK
        case hbody =>
          rintro l ⟨V1, q⟩ y W ⟨h1, h2, h3, h4⟩ ⟨⟨r, hV⟩, ⟨wn, wa, wb, wc, hx⟩, hyc⟩
          dsimp only at h1 h3 h4 hV hyc
          obtain ⟨e0, e1⟩ := cfr_cells h1
          have hcv : V1.count + (1 + (parts y.a y.b y.c).count + r.count) ≤ (parts a b c).count := by
            have q1 := vis_count x k s ns a b c
            rw [hV, Fx.count_app] at q1
            simp only [Pt.fx, Fx.count] at q1
            rw [parts_count]
            omega
          have hsy : shapeB y.k y.s y.n y.op y.ns y.a y.b y.c = true := by
            have q1 := vis_shape (x := x) HSh.out
            rw [hV, shape_app] at q1
            unfold Pt.fx at q1
            rw [shape_cons] at q1
            simp only [Bool.and_eq_true] at q1
            exact q1.2.1
          have hcy : Pt.cost y = costE y.ns y.a y.b y.c := rfl
          obtain ⟨⟨u1, u2⟩, hU⟩ : ∃ U, usesE x y.k y.s y.ns y.a y.b y.c = U := ⟨_, rfl⟩
          have hu1 : u1 ≤ 131072 := by
            have q1 := usesE_le x y.k y.s y.ns y.a y.b y.c
            rw [hU] at q1
            rw [parts_count] at hcv
            dsimp only at q1
            omega
          have ht1 : ownU x k s + sumU x V1 ≤ 131073 := by
            have q1 := sumU_le x V1
            have q2 : ownU x k s ≤ 1 := by unfold ownU; split <;> omega
            omega
          have hih := ih y.bk y.of y.k y.s y.n y.op wn wa wb wc y.ns y.a y.b y.c (lv + 1) q W (by omega) (by omega) hM hMk (Nat.le_trans hMw h1.ct.size) (hx.lk h2) h1.ctr (by omega) (by omega) hsy (by omega)
          rw [hU] at hih
          have HIH := Lib.hid hih
          have HH := Lib.hid (And.intro h1 (And.intro h2 (And.intro h3 h4)))
          have HYc := Lib.hid hyc
          have HUy := Lib.hid hU
          clear hih h1 h2 h3 h4 hx hU hsy hV hyc hcv
          gi_wp2_with (first
            | (refine ⟨trivial, ?_⟩; gi_at_call 16; refine (CallsIn.inRound l (callsIn_wide.2 HIH.out)).mono ?_; rintro e W2 ⟨rfl, ct2, p2, cr2, g1, g2⟩; have HF2 := Lib.hid (HH.out.1.step hcl ct2 cr2); have HA2 := Lib.hid (And.intro ct2 (And.intro g1 g2)); clear ct2 cr2 g1 g2)
            | (refine ⟨trivial, ?_⟩; gi_at_call 27; refine (CallsIn.inRound l (callsIn_wide.2 (add_any _ _ _ _ _ _ HF2.out.al ⟨by omega, by omega⟩ ⟨by omega, by omega⟩))).mono ?_; rintro e W3 ⟨⟨v3, rfl⟩, ha, ct3⟩; have HF3 := Lib.hid (HF2.out.add hcl hkl ct3 ha); have HA3 := Lib.hid ct3; have q0 := (cfr_cells HF3.out).1; have q3 := (ctr_cell HF3.out.ctr).2.2.2.1; clear ha ct3))
          have z1 : ((ownU x k s + sumU x (V1.app (y.fx .nil)) : Nat) : Int) = ((ownU x k s + sumU x V1 : Nat) : Int) + u1 := by rw [count_next.1, HUy.out]; dsimp only; omega
          have z2 : anyU x false (V1.app (y.fx .nil)) = (anyU x false V1 || u2) := by rw [count_next.2, HUy.out]
          have hA := HA2.out.2
          have hY := HYc.out
          have hH := HH.out.2.2
          exact ⟨(HA2.out.1.k.trans HA3.out.k).from _, (V1.app (y.fx .nil), p2), ⟨rfl, by dsimp only; omega, by dsimp only; omega⟩, by dsimp only; rw [z1, z2]; exact HF3.out, (HH.out.2.1.ct HA2.out.1).step HA3.out ⟨by omega, by omega, by omega⟩, by dsimp only; omega, by dsimp only; omega⟩
        case hdone =>
          rintro D ⟨V1, q⟩ W hD hV ⟨h1, h2, h3, h4⟩ hK
          dsimp only at h1 h3 h4 hV
          subst hV
          have HUse := Lib.hid (uses_vis (x := x) HO.out)
          obtain ⟨T, hT⟩ : ∃ T, ownU x k s + sumU x (vis x k s ns a b c) = T := ⟨_, rfl⟩
          obtain ⟨I, hI⟩ : ∃ I, anyU x false (vis x k s ns a b c) = I := ⟨_, rfl⟩
          rw [hT, hI] at h1
          rw [hT, hI] at HUse
          have hT1 : T ≤ 131073 := by
            have q1 := sumU_le x (vis x k s ns a b c)
            have q2 := vis_count x k s ns a b c
            have q3 : ownU x k s ≤ 1 := by unfold ownU; split <;> omega
            omega
          have kk := (HX.out.lk h2).c0
          obtain ⟨e0, e1⟩ := cfr_cells h1
          obtain ⟨c0, c1, _⟩ := ctr_cell h1.ctr
          obtain ⟨a0, a1, a2, a3⟩ := all_cell h1.al
          obtain ⟨r0, r1, r2, r3⟩ := all_cell h1.b2
          have hq0 : decide (q < 0) = false := decide_eq_false (by omega)
          have HH := Lib.hid (And.intro h1 (And.intro h2 (And.intro h3 h4)))
          have HKd := Lib.hid hK
          clear h1 h2 hK hT hI
          cases I
          all_goals
            cases h3k : (k == 3)
            all_goals
              by_cases hTp : 0 < T
              all_goals
                first
                | have hTd : decide (0 < T) = true := decide_eq_true hTp
                  have hTd2 : decide ((0 : Int) < T) = true := decide_eq_true (by omega)
                | have hTd : decide (0 < T) = false := decide_eq_false hTp
                  have hTd2 : decide ((0 : Int) < T) = false := decide_eq_false (by omega)
                rw [h3k, hTd] at HUse
                clear hTp
                go_wp2_with fail
                first
                  | exact (have g := cfr_end HH.out.1 hcl hkl true (by omega) HKd.out; ⟨by simp, .inl ⟨_, _, rfl, run_takeDeferred g.1, _, results_cell_row rfl _ _ (w.heap.size + 1 + 1) _ _ _ (.struct cntFs) rfl g.2.1 under_cnt rfl size_cnt, by rw [HUse.out]; rfl, g.2.2.1, q, g.2.2.2, HH.out.2.2.2, by omega⟩⟩)
                  | exact (have g := cfr_end HH.out.1 hcl hkl false (by omega) HKd.out; ⟨by simp, .inl ⟨_, _, rfl, run_takeDeferred g.1, _, results_cell_row rfl _ _ (w.heap.size + 1 + 1) _ _ _ (.struct cntFs) rfl g.2.1 under_cnt rfl size_cnt, by rw [HUse.out]; rfl, g.2.2.1, q, g.2.2.2, HH.out.2.2.2, by omega⟩⟩)
end Go.Proofs.YtfcogjlojfcfkaaGreat
end
