/- The measurer, at every expression that takes no more than an answer may. Bounds on how great it is. -/
import Derived.Test.YtfcogjlojfcfkaaGreatMV
namespace Go.Proofs.YtfcogjlojfcfkaaGreat
open Go.RowKit Ex0
attribute [local go_sem] bt_size bt_list bt_toList

theorem under_mk : Tryz.prog.underlying 75 = some (.map 51 57) := by kernel_rfl
theorem under_pe : ∃ u, Tryz.prog.underlying 51 = some (.pointer u) := ⟨27, by kernel_rfl⟩
theorem look_known (W : World) (kb : Nat) (ad : Option Addr) (h : W.heap[kb]? = some (.map #[] 0)) :
    (Instr.lookup 75 (.map (some kb)) (.pointer ad) true).run Tryz.prog W = .ok (.tuple #[.agg #[.int .i64 0, .int .i64 0, .int .i64 0, .int .i64 0], .bool false]) W := by
  obtain ⟨u, hu⟩ := under_pe
  have hz := Tryz.zeroValue57 W
  have hc : (Instr.checkKey true 10000 51 (.pointer ad)).run Tryz.prog W = .ok () W := by
    show (Instr.checkKey true (9999 + 1) 51 (.pointer ad)).run Tryz.prog W = .ok () W
    unfold Instr.checkKey
    simp [run_underlying hu, Result.andThen]
  have hf : (Instr.findKey 51 (.pointer ad) []).run Tryz.prog W = .ok none W := by
    unfold Instr.findKey
    simp [run_underlying hu, Instr.findNow, Result.andThen]
  unfold Instr.lookup
  simp [run_underlying under_mk, MapKept.run_getObj_map h, hc, hf, hz, Result.andThen]

theorem grow_far {W0 W W' : World} {mb : Nat} {row : Option Nat} (h : W0.grownBy W (some mb)) (k : W.grownBy W' row) (hr : ∀ q, row = some q → q = mb ∨ W0.heap.size ≤ q) : W0.grownBy W' (some mb) :=
  ⟨k.os.trans h.os, k.tape.trans h.tape, k.output.trans h.output, Nat.le_trans h.size k.size, fun i hi hn => (k.block i (Nat.lt_of_lt_of_le hi h.size) (fun e => by
    rcases hr i e.symm with rfl | hq
    · exact hn rfl
    · omega)).trans (h.block i hi hn)⟩
theorem grow_none {W W' : World} (h : Below W.heap.size W W') : W.grownBy W' none := ⟨h.os, h.tape, h.output, h.size, fun i hi _ => h.block i hi⟩
theorem below_grow' {W W' : World} {row : Option Nat} (h : Below W.heap.size W W') : W.grownBy W' row := ⟨h.os, h.tape, h.output, h.size, fun i hi _ => h.block i hi⟩
theorem own_form6 {w : World} {B n : Nat} {E : TypeId} {v : Value} {xs : List Value} (h : w.ownsRow B E 6 v (n + 1) xs) : ∃ g c, v = .slice (some ⟨g, 0, none⟩) (n + 1) c := by
  rcases h.2 with ⟨_, h⟩ | ⟨g, c, _, h, _⟩
  · omega
  · exact ⟨g, c, h⟩
theorem grow_draws (W : World) (n : Nat) : W.grownBy (W.drewN n) none := ⟨rfl, rfl, rfl, Nat.le_refl _, fun _ _ _ => rfl⟩

theorem info_stay : (Tryz.prog.info? 82).map (fun i => (i.zero, i.size, i.bytes)) = some (some (.agg #[.pointer none, .int .i64 0, .int .i64 0, .int .i64 0, .int .i64 0, .int .i64 0]), 6, 48) := by kernel_rfl
/-- How many expressions have been counted, and are ahead. -/
def sizeA : List Fr → Int
  | [] => 0
  | f :: r => (f.sz + f.f2.count) + sizeA r
/-- The measurer's state. -/
structure MSt (M : Nat) (W0 wr : World) (mb kb : Nat) (p0 : Int) (C0 : Nat) (TB : Int) (v : Value) (st : List Fr) : Prop where
  grow : W0.grownBy wr (some mb)
  mz : MzAt wr mb kb (p0 - C0 + ahead st)
  rb : wr.heap[W0.heap.size]? = some (.cells #[.int .i64 0, .int .i64 0, .int .i64 0, .int .i64 0] 57 (0, 0))
  own : wr.ownsRow (W0.heap.size + 1) 82 6 v st.length (encAll st)
  oks : ∀ f ∈ st, Fr.ok M W0 f
  sum : bytesA st = TB
  cnt : ahead st + st.length ≤ C0 + 1
  szs : sizeA st = C0 + 1
/-- What is so of all the measuring. -/
structure MHyp (M : Nat) (W0 : World) (mb kb : Nat) (p0 : Int) (C0 : Nat) (TB : Int) : Prop where
  hM : M ≤ mb
  hMW : M ≤ W0.heap.size
  hmb : mb < W0.heap.size
  hkb : W0.heap[kb]? = some (.map #[] 0)
  hne : kb ≠ mb
  hC : C0 + 1 ≤ 131072
  hp : (C0 : Int) < p0 ∧ p0 ≤ 1048576
  hB : TB ≤ 2147483647
theorem MSt.exl {M : Nat} {W0 wr : World} {mb kb : Nat} {p0 : Int} {C0 : Nat} {TB : Int} {v : Value} {st : List Fr} (h : MSt M W0 wr mb kb p0 C0 TB v st) (H : MHyp M W0 mb kb p0 C0 TB) {f : Fr} (hf : f ∈ st) :
    ExL M wr f.bk f.of f.k f.s f.n f.op f.vn f.va f.vb f.vc f.ns f.a f.b f.c := (h.oks f hf).ex.two (Two.ob (fb := mb) h.grow) H.hM H.hM H.hMW
theorem ExL.grow {M : Nat} {W W' : World} {row : Option Nat} {bk of : Nat} {k : Int} {s : List UInt8} {n op : Int} {vn va vb vc : Value} {ns : List (List UInt8)} {a b c : Fx} (h : ExL M W bk of k s n op vn va vb vc ns a b c) (t : W.grownBy W' row) (h1 : ∀ q, row = some q → M ≤ q) (hM : M ≤ W.heap.size) :
    ExL M W' bk of k s n op vn va vb vc ns a b c :=
  have q : Keep (Old M) (Old M) W W' := fun b hb => ⟨hb, fun o => World.cell?_of_block (w := W) (w' := W') (a := ⟨b, o, none⟩) (t.block b (Nat.lt_of_lt_of_le hb hM) (fun e => by have := h1 b e.symm; have : b < M := hb; omega))⟩
  have c := fun o => (q bk h.lt).2 o
  ⟨h.lt, (c _).trans h.c0, (c _).trans h.c1, (c _).trans h.c2, (c _).trans h.c3, (c _).trans h.c4, (c _).trans h.c5, (c _).trans h.c6, (c _).trans h.c7, h.ex.keep q⟩
theorem children_qq {M bk of : Nat} {k : Int} {s : List UInt8} {n op : Int} {vn va vb vc : Value} {ns : List (List UInt8)} {a b c : Fx} {W : World} (h : ExL M W bk of k s n op vn va vb vc ns a b c) (hMW : M ≤ W.heap.size) (hlen : a.len + b.len + c.len ≤ 1048576) (nq : Nat) :
    Calls Tryz.prog 31 #[.pointer (some ⟨bk, of, none⟩)] (W.drewN nq) fun e w' => e = .returned (.int .i64 ((a.len + b.len + c.len : Nat) : Int)) ∧ ∃ m, w' = W.drewN m :=
  (children_any (h.grow (grow_draws W nq) (fun q e => by cases e) hMW) hlen).mono fun _ _ ⟨he, m, hm⟩ => ⟨he, nq + m, by rw [hm, drewN_two]⟩
/-- As an expression lies, so it lay. -/
theorem ExL.back {M : Nat} {W W' : World} {row : Option Nat} {bk of : Nat} {k : Int} {s : List UInt8} {n op : Int} {vn va vb vc : Value} {ns : List (List UInt8)} {a b c : Fx} (h : ExL M W' bk of k s n op vn va vb vc ns a b c) (t : W.grownBy W' row) (h1 : ∀ q, row = some q → M ≤ q) (hM : M ≤ W.heap.size) :
    ExL M W bk of k s n op vn va vb vc ns a b c :=
  have q : Keep (Old M) (Old M) W' W := fun b hb => ⟨hb, fun o => (World.cell?_of_block (w := W) (w' := W') (a := ⟨b, o, none⟩) (t.block b (Nat.lt_of_lt_of_le hb hM) (fun e => by have := h1 b e.symm; have : b < M := hb; omega))).symm⟩
  have c := fun o => (q bk h.lt).2 o
  ⟨h.lt, (c _).trans h.c0, (c _).trans h.c1, (c _).trans h.c2, (c _).trans h.c3, (c _).trans h.c4, (c _).trans h.c5, (c _).trans h.c6, (c _).trans h.c7, h.ex.keep q⟩
/-- Behind what turns none of the state's blocks. -/
theorem MSt.step {M : Nat} {W0 wr w' : World} {mb kb : Nat} {p0 : Int} {C0 : Nat} {TB : Int} {v : Value} {st : List Fr} (h : MSt M W0 wr mb kb p0 C0 TB v st) (H : MHyp M W0 mb kb p0 C0 TB) (k : wr.grownBy w' none) : MSt M W0 w' mb kb p0 C0 TB v st :=
  ⟨grow_far h.grow k (fun q e => by cases e), (k.block mb (mz_cell h.mz).2 (by simp)).trans h.mz, (k.block _ (Array.getElem?_eq_some_iff.1 h.rb).1 (by simp)).trans h.rb, h.own.kept k (by cases hh : v.ownBlock with | none => exact .inl rfl | some g => exact .inr (by simp)), h.oks, h.sum, h.cnt, h.szs⟩
def patOf (W : World) (mb : Nat) : Int := match W.cell? ⟨mb, 0, none⟩ with | some (.int _ n) => n | _ => 0
def lenOf : Value → Nat | .slice _ n _ => n | _ => 0
theorem MSt.pat {M : Nat} {W0 wr : World} {mb kb : Nat} {p0 : Int} {C0 : Nat} {TB : Int} {v : Value} {st : List Fr} (h : MSt M W0 wr mb kb p0 C0 TB v st) : patOf wr mb = p0 - C0 + ahead st := by
  unfold patOf
  rw [(mz_cell h.mz).1]
/-- Between the highest stay's step and what comes of its part: cb bytes and cc expressions are that part. -/
structure MMid (M : Nat) (W0 wr : World) (mb kb : Nat) (p0 : Int) (C0 : Nat) (TB : Int) (v : Value) (st : List Fr) (cb : Int) (cc : Nat) : Prop where
  grow : W0.grownBy wr (some mb)
  mz : MzAt wr mb kb (p0 - C0 + ahead st + cc - 1)
  rb : wr.heap[W0.heap.size]? = some (.cells #[.int .i64 0, .int .i64 0, .int .i64 0, .int .i64 0] 57 (0, 0))
  own : wr.ownsRow (W0.heap.size + 1) 82 6 v st.length (encAll st)
  oks : ∀ f ∈ st, Fr.ok M W0 f
  sum : bytesA st + cb = TB
  cnt : ahead st + cc + st.length ≤ C0 + 1
  szs : sizeA st + cc = C0 + 1
theorem MMid.step {M : Nat} {W0 wr w' : World} {mb kb : Nat} {p0 : Int} {C0 : Nat} {TB : Int} {v : Value} {st : List Fr} {cb : Int} {cc : Nat} (h : MMid M W0 wr mb kb p0 C0 TB v st cb cc) (k : wr.grownBy w' none) : MMid M W0 w' mb kb p0 C0 TB v st cb cc :=
  ⟨grow_far h.grow k (fun q e => by cases e), (k.block mb (mz_cell h.mz).2 (by simp)).trans h.mz, (k.block _ (Array.getElem?_eq_some_iff.1 h.rb).1 (by simp)).trans h.rb, h.own.kept k (by cases hh : v.ownBlock with | none => exact .inl rfl | some g => exact .inr (by simp)), h.oks, h.sum, h.cnt, h.szs⟩
theorem set_get {cs : Array Value} {o i : Nat} {v : Value} : (cs.setIfInBounds o v)[i]? = if o = i then (if i < cs.size then some v else none) else cs[i]? := by
  rw [Array.getElem?_setIfInBounds]
  split
  · rename_i h; subst h; rfl
  · rfl
theorem mz_at {W : World} {mb kb : Nat} {p q : Int} (h : MzAt W mb kb p) : MzAt (W.setCell ⟨mb, 0, none⟩ (.int .i64 q)) mb kb q := by
  have := heap_set (o := 0) h (.int .i64 q)
  exact this.trans rfl

theorem MSt.adv {M : Nat} {W0 wr : World} {mb kb : Nat} {p0 : Int} {C0 : Nat} {TB : Int} {g cap : Nat} {f : Fr} {r : List Fr} (h : MSt M W0 wr mb kb p0 C0 TB (.slice (some ⟨g, 0, none⟩) (r.length + 1) cap) (f :: r)) (H : MHyp M W0 mb kb p0 C0 TB)
    {pr : Pre} {k : Int} {s : List UInt8} {n op : Int} {ns : List (List UInt8)} {x y z rest : Fx} (hf : f.f2 = .cons pr k s n op ns x y z rest) (q : Int) (hq : q = p0 - C0 + ahead (f :: r) - 1) :
    MMid M W0 ((wr.setCell ⟨g, r.length * 6 + 1, none⟩ (.int .i64 ((f.f1.len : Int) + 1))).setCell ⟨mb, 0, none⟩ (.int .i64 q)) mb kb p0 C0 TB (.slice (some ⟨g, 0, none⟩) (r.length + 1) cap)
      ({ f with f1 := f.f1.app (.cons pr k s n op ns x y z .nil), f2 := rest } :: r) ((ownBytes ns y z + (bytesF x + bytesF y + bytesF z) : Nat) : Int) (1 + (x.count + y.count + z.count)) := by
  obtain ⟨cs, hh, hg, hn, hm, hs, hl, hc⟩ := own_cells h.own
  have hmb := H.hmb
  have hgm : g ≠ mb := by omega
  have hgr : g ≠ W0.heap.size := by omega
  have ht := top_at hc rfl
  have h1 := heap_set (o := r.length * 6 + 1) hh (.int .i64 ((f.f1.len : Int) + 1))
  have h2 := (Below.heap_setCell (wr.setCell ⟨g, r.length * 6 + 1, none⟩ (.int .i64 ((f.f1.len : Int) + 1))) ⟨mb, 0, none⟩ (.int .i64 q) g hgm).trans h1
  have hm1 : MzAt (wr.setCell ⟨g, r.length * 6 + 1, none⟩ (.int .i64 ((f.f1.len : Int) + 1))) mb kb (p0 - C0 + ahead (f :: r)) := (Below.heap_setCell _ _ _ mb (Ne.symm hgm)).trans h.mz
  have hok := h.oks f (by simp)
  refine ⟨grow_far (grow_far h.grow (mz_set wr g _ _) (fun q e => by cases e; exact .inr (by omega))) (mz_set _ mb 0 _) (fun q e => by cases e; exact .inl rfl), ?_, ?_, ?_, ?_, ?_, ?_, ?_⟩
  · have := mz_at (q := q) hm1
    rw [hq] at this ⊢
    have e : p0 - (C0 : Int) + ahead (f :: r) - 1 = p0 - C0 + (ahead ({ f with f1 := f.f1.app (.cons pr k s n op ns x y z .nil), f2 := rest } :: r) : Nat) + ((1 + (x.count + y.count + z.count) : Nat) : Int) - 1 := by
      simp only [ahead, hf, Fx.count]
      omega
    rw [e] at this ⊢
    exact this
  · exact (Below.heap_setCell _ _ _ _ (show W0.heap.size ≠ mb by omega)).trans ((Below.heap_setCell _ _ _ _ (Ne.symm hgr)).trans h.rb)
  · have hsz : r.length * 6 + 6 ≤ cs.size := by rw [hs]; omega
    refine top_put (f := f) hg hn hm hs hc h2 (by simp) (fun i hi => by rw [set_get, if_neg (by omega)]) ?_ ?_ ?_ ?_ ?_ ?_
    · rw [set_get, if_neg (by omega)]; exact ht.1
    · rw [set_get, if_pos rfl, if_pos (by omega)]; dsimp only; rw [Fx.len_app]; rfl
    · rw [set_get, if_neg (by omega)]; exact ht.2.2.1
    · rw [set_get, if_neg (by omega)]; exact ht.2.2.2.1
    · rw [set_get, if_neg (by omega)]; exact ht.2.2.2.2.1
    · rw [set_get, if_neg (by omega)]; exact ht.2.2.2.2.2
  · intro f' hf'
    rcases List.mem_cons.1 hf' with rfl | hf'
    · exact ⟨hok.ex, by rw [Fx.app_app]; simp only [Fx.app]; rw [← hf]; exact hok.pr, hok.sz, hok.dp, hok.q, hok.y, hok.few⟩
    · exact h.oks f' (by simp [hf'])
  · have := h.sum
    simp only [bytesA, hf, bytesF] at this ⊢
    omega
  · have := h.cnt
    simp only [ahead, hf, Fx.count, List.length_cons] at this ⊢
    omega
  · have := h.szs
    simp only [sizeA, hf, Fx.count] at this ⊢
    omega

/-- The highest stay's numbers are added to. -/
theorem add_put {w w' : World} {base g cap : Nat} {T : TypeId} {f : Fr} {r : List Fr} {d' s2 y2 q2 : Int} (h : w.ownsRow base T 6 (.slice (some ⟨g, 0, none⟩) (r.length + 1) cap) (r.length + 1) (encAll (f :: r))) {cs : Array Value} (hh : w.heap[g]? = some (.cells cs T (0, 0)))
    (hw : w'.heap[g]? = some (.cells ((((cs.setIfInBounds (r.length * 6 + 2) (.int .i64 (f.sz + s2))).setIfInBounds (r.length * 6 + 2 + 1) (.int .i64 d')).setIfInBounds (r.length * 6 + 2 + 2) (.int .i64 (f.y + y2))).setIfInBounds (r.length * 6 + 2 + 3) (.int .i64 (f.q + q2))) T (0, 0))) :
    w'.ownsRow base T 6 (.slice (some ⟨g, 0, none⟩) (r.length + 1) cap) (r.length + 1) (encAll ({ f with sz := f.sz + s2, dp := d', y := f.y + y2, q := f.q + q2 } :: r)) := by
  obtain ⟨cs', hh', hg, hn, hm, hs, hl, hc⟩ := own_cells h
  obtain rfl : cs = cs' := by rw [hh] at hh'; cases hh'; rfl
  have ht := top_at hc rfl
  have hsz : r.length * 6 + 6 ≤ cs.size := by rw [hs]; omega
  refine top_put (f := f) hg hn hm hs hc hw (by simp) (fun i hi => by rw [set_get, if_neg (by omega), set_get, if_neg (by omega), set_get, if_neg (by omega), set_get, if_neg (by omega)]) ?_ ?_ ?_ ?_ ?_ ?_
  · rw [set_get, if_neg (by omega), set_get, if_neg (by omega), set_get, if_neg (by omega), set_get, if_neg (by omega)]; exact ht.1
  · rw [set_get, if_neg (by omega), set_get, if_neg (by omega), set_get, if_neg (by omega), set_get, if_neg (by omega)]; exact ht.2.1
  · rw [set_get, if_neg (by omega), set_get, if_neg (by omega), set_get, if_neg (by omega), set_get, if_pos rfl, if_pos (by omega)]
  · rw [set_get, if_neg (by omega), set_get, if_neg (by omega), set_get, if_pos (by omega), if_pos (by simp; omega)]
  · rw [set_get, if_neg (by omega), set_get, if_pos (by omega), if_pos (by simp; omega)]
  · rw [set_get, if_pos (by omega), if_pos (by simp; omega)]
theorem MSt.pop {M : Nat} {W0 wr w' : World} {mb kb : Nat} {p0 : Int} {C0 : Nat} {TB : Int} {g cap : Nat} {f f2 : Fr} {r : List Fr} {d' : Int} (h : MSt M W0 wr mb kb p0 C0 TB (.slice (some ⟨g, 0, none⟩) (r.length + 1 + 1) cap) (f :: f2 :: r)) (H : MHyp M W0 mb kb p0 C0 TB) (hf : f.f2 = .nil)
    {cs : Array Value} (hh : wr.heap[g]? = some (.cells cs 82 (0, 0)))
    (hw : w'.heap[g]? = some (.cells ((((cs.setIfInBounds (r.length * 6 + 2) (.int .i64 (f2.sz + f.sz))).setIfInBounds (r.length * 6 + 2 + 1) (.int .i64 d')).setIfInBounds (r.length * 6 + 2 + 2) (.int .i64 (f2.y + f.y))).setIfInBounds (r.length * 6 + 2 + 3) (.int .i64 (f2.q + f.q))) 82 (0, 0)))
    (hd : 0 ≤ d' ∧ d' ≤ max f2.dp (1 + f.dp)) (hg : wr.grownBy w' (some g)) :
    MSt M W0 w' mb kb p0 C0 TB (.slice (some ⟨g, 0, none⟩) (r.length + 1) cap) ({ f2 with sz := f2.sz + f.sz, dp := d', y := f2.y + f.y, q := f2.q + f.q } :: r) := by
  obtain ⟨cs', hh', hgb, hn, hm, hs, hl, hc⟩ := own_cells h.own
  obtain rfl : cs = cs' := by rw [hh] at hh'; cases hh'; rfl
  have hmb := H.hmb
  have hpop : wr.ownsRow (W0.heap.size + 1) 82 6 (.slice (some ⟨g, 0, none⟩) (r.length + 1) cap) (r.length + 1) (encAll (f2 :: r)) := ownsRow_pop (last := f.enc) (encAll_len (f2 :: r)) (by have := h.own; simpa [encAll] using this)
  have o1 := h.oks f (by simp)
  have o2 := h.oks f2 (by simp)
  refine ⟨grow_far h.grow hg (fun q e => by cases e; exact .inr (by omega)), ?_, (hg.block _ (Array.getElem?_eq_some_iff.1 h.rb).1 (by simp; omega)).trans h.rb, add_put hpop hh hw, ?_, ?_, ?_, ?_⟩
  · have := (hg.block mb (mz_cell h.mz).2 (by simp; omega)).trans h.mz
    simpa [ahead, hf, Fx.count, MzAt] using this
  · intro f' hf'
    rcases List.mem_cons.1 hf' with rfl | hf'
    · have := o1.sz; have := o1.dp; have := o1.q; have := o1.y; have := o2.sz; have := o2.dp; have := o2.q; have := o2.y
      exact ⟨o2.ex, o2.pr, by dsimp only; omega, by dsimp only; omega, by dsimp only; omega, by dsimp only; omega, o2.few⟩
    · exact h.oks f' (by simp [hf'])
  · have := h.sum
    simp only [bytesA, hf, bytesF] at this ⊢
    omega
  · have := h.cnt
    simp only [ahead, hf, Fx.count, List.length_cons] at this ⊢
    omega
  · have := h.szs
    simp only [sizeA, hf, Fx.count] at this ⊢
    omega
theorem MMid.leaf {M : Nat} {W0 wr w' : World} {mb kb : Nat} {p0 : Int} {C0 : Nat} {TB : Int} {g cap : Nat} {f : Fr} {r : List Fr} {cb d' s2 d2 q2 : Int} (h : MMid M W0 wr mb kb p0 C0 TB (.slice (some ⟨g, 0, none⟩) (r.length + 1) cap) (f :: r) cb 1) (H : MHyp M W0 mb kb p0 C0 TB)
    {cs : Array Value} (hh : wr.heap[g]? = some (.cells cs 82 (0, 0)))
    (hw : w'.heap[g]? = some (.cells ((((cs.setIfInBounds (r.length * 6 + 2) (.int .i64 (f.sz + s2))).setIfInBounds (r.length * 6 + 2 + 1) (.int .i64 d')).setIfInBounds (r.length * 6 + 2 + 2) (.int .i64 (f.y + cb))).setIfInBounds (r.length * 6 + 2 + 3) (.int .i64 (f.q + q2))) 82 (0, 0)))
    (hd : 0 ≤ d' ∧ d' ≤ max f.dp (1 + d2)) (hs1 : s2 = 1) (hs2 : 0 ≤ s2 ∧ s2 ≤ cb) (hd2 : 0 ≤ d2 ∧ d2 ≤ cb) (hq2 : 0 ≤ q2 ∧ q2 ≤ cb) (hg : wr.grownBy w' (some g)) :
    MSt M W0 w' mb kb p0 C0 TB (.slice (some ⟨g, 0, none⟩) (r.length + 1) cap) ({ f with sz := f.sz + s2, dp := d', y := f.y + cb, q := f.q + q2 } :: r) := by
  obtain ⟨cs', hh', hgb, hn, hm, hs, hl, hc⟩ := own_cells h.own
  have hmb := H.hmb
  have o2 := h.oks f (by simp)
  refine ⟨grow_far h.grow hg (fun q e => by cases e; exact .inr (by omega)), ?_, (hg.block _ (Array.getElem?_eq_some_iff.1 h.rb).1 (by simp; omega)).trans h.rb, add_put h.own hh hw, ?_, ?_, ?_, ?_⟩
  · have := (hg.block mb (mz_cell h.mz).2 (by simp; omega)).trans h.mz
    have e : p0 - (C0 : Int) + (ahead (f :: r) : Nat) + ((1 : Nat) : Int) - 1 = p0 - C0 + (ahead (f :: r) : Nat) := by omega
    rw [e] at this
    exact this
  · intro f' hf'
    rcases List.mem_cons.1 hf' with rfl | hf'
    · have := o2.sz; have := o2.dp; have := o2.q; have := o2.y
      exact ⟨o2.ex, o2.pr, by dsimp only; omega, by dsimp only; omega, by dsimp only; omega, by dsimp only; omega, o2.few⟩
    · exact h.oks f' (by simp [hf'])
  · have := h.sum
    simp only [bytesA] at this ⊢
    omega
  · have := h.cnt
    simp only [ahead, List.length_cons] at this ⊢
    omega
  · have := h.szs
    simp only [sizeA] at this ⊢
    omega
theorem MMid.push {M : Nat} {W0 wr w' : World} {mb kb : Nat} {p0 : Int} {C0 : Nat} {TB : Int} {v v' : Value} {st : List Fr} {f : Fr} (h : MMid M W0 wr mb kb p0 C0 TB v st (f.y + bytesF f.f2) (1 + f.f2.count)) (H : MHyp M W0 mb kb p0 C0 TB) (hf : Fr.ok M W0 f) (hsz : f.sz = 1)
    (hown : w'.ownsRow (W0.heap.size + 1) 82 6 v' (f :: st).length (encAll (f :: st))) (hg : wr.grownBy w' v.ownBlock) : MSt M W0 w' mb kb p0 C0 TB v' (f :: st) := by
  have hmb := H.hmb
  have hr : ∀ q, v.ownBlock = some q → W0.heap.size + 1 ≤ q := fun q e => (h.own.lt q e).1
  refine ⟨grow_far h.grow hg (fun q e => .inr (by have := hr q e; omega)), ?_, (hg.block _ (Array.getElem?_eq_some_iff.1 h.rb).1 (fun e => by have := hr _ e.symm; omega)).trans h.rb, hown, ?_, ?_, ?_, ?_⟩
  · have := (hg.block mb (mz_cell h.mz).2 (fun e => by have := hr _ e.symm; omega)).trans h.mz
    have e : p0 - (C0 : Int) + (ahead st : Nat) + ((1 + f.f2.count : Nat) : Int) - 1 = p0 - C0 + (ahead (f :: st) : Nat) := by simp only [ahead]; omega
    rw [e] at this
    exact this
  · intro f' hf'
    rcases List.mem_cons.1 hf' with rfl | hf'
    · exact hf
    · exact h.oks f' hf'
  · have := h.sum
    simp only [bytesA] at this ⊢
    omega
  · have := h.cnt
    simp only [ahead, List.length_cons] at this ⊢
    omega
  · have := h.szs
    simp only [sizeA] at this ⊢
    omega
theorem MMid.add {M : Nat} {W0 wr : World} {mb kb : Nat} {p0 : Int} {C0 : Nat} {TB : Int} {g cap n2 : Nat} {f : Fr} {r : List Fr} {cb s2 d2 q2 : Int} (h : MMid M W0 wr mb kb p0 C0 TB (.slice (some ⟨g, 0, none⟩) (n2 + 1) cap) (f :: r) cb 1) (H : MHyp M W0 mb kb p0 C0 TB) (hn2 : r.length = n2) (hs1 : s2 = 1)
    (hs2 : 0 ≤ s2 ∧ s2 ≤ cb) (hd2 : 0 ≤ d2 ∧ d2 ≤ cb) (hq2 : 0 ≤ q2 ∧ q2 ≤ cb) :
    Calls Tryz.prog 33 #[.pointer (some ⟨g, n2 * 6 + 2, none⟩), .agg #[.int .i64 s2, .int .i64 d2, .int .i64 cb, .int .i64 q2]] wr fun e w' => (∃ v, e = .returned v) ∧ ∃ f' : Fr, f'.f2 = f.f2 ∧ MSt M W0 w' mb kb p0 C0 TB (.slice (some ⟨g, 0, none⟩) (n2 + 1) cap) (f' :: r) := by
  subst hn2
  obtain ⟨cs, hh, _, _, _, _, _, hcx⟩ := own_cells h.own
  obtain ⟨t0, t1, t2, t3, t4, t5⟩ := top_at hcx rfl
  have o := h.oks f (by simp)
  have hs := h.sum
  have hb := bytesA_pos (st := r) (fun x hx => h.oks x (by simp [hx]))
  have hB := H.hB
  simp only [bytesA] at hs
  refine (eadd_any g (r.length * 6 + 2) f.sz f.dp f.y f.q s2 d2 cb q2 cs 82 wr hh t2 t3 t4 t5 o.sz o.dp o.q hs2 hd2 hq2 (by omega)).mono ?_
  rintro e w' ⟨hv, ⟨d', hw, hd⟩, hg⟩
  refine ⟨hv, _, ?_, h.leaf H hh hw hd hs1 hs2 hd2 hq2 hg⟩
  rfl

set_option maxHeartbeats 4000000 in
set_option maxRecDepth 100000 in
theorem measure_any (M mb kb bk of : Nat) (p : Int) (k : Int) (s : List UInt8) (n op : Int) (vn va vb vc : Value) (ns : List (List UInt8)) (a b c : Fx) (W : World) (TB : Int) (hTB : TB = (ownBytes ns b c : Nat) + bytesF (parts a b c))
    (H : MHyp M W mb kb p (parts a b c).count TB) (hm : MzAt W mb kb p) (h : ExL M W bk of k s n op vn va vb vc ns a b c) :
    Calls Tryz.prog 19 #[.pointer (some ⟨mb, 0, none⟩), .pointer (some ⟨bk, of, none⟩)] W fun e w' =>
      (∃ x0 x1 x2 x3 : Int, e = .returned (.tuple #[.agg #[.int .i64 x0, .int .i64 x1, .int .i64 x2, .int .i64 x3], .bool true]) ∧ x2 = TB ∧ x0 = ((parts a b c).count : Nat) + 1) ∧ MzAt w' mb kb (p - ((parts a b c).count : Nat)) ∧ W.grownBy w' (some mb) := by
  have HH := Lib.hid H
  have HM := Lib.hid hm
  have HL := Lib.hid h
  have hob := ownBytes_le ns b c
  have hTB2 := H.hB
  have hC := H.hC
  have hpl := parts_len a b c
  have hcl := (parts a b c).len_le
  clear hm h
  have hMW : M ≤ W.heap.size := H.hMW
  go_enter Tryz.func19, Tryz.ntmps19
  go_wp2_with fail
  refine (extent_any (HL.out.grow (grow_none (below_alloc' W _)) (fun q e => by cases e) hMW) (Nat.le_trans hMW (by simp)) (by omega)).mono ?_
  rintro e W2 ⟨⟨q0, rfl, hq0, hq1⟩, hb2⟩
  have HB2 := Lib.hid ((below_alloc' W (.cells #[.int .i64 0, .int .i64 0, .int .i64 0, .int .i64 0] 57)).trans (hb2.mono (by simp)))
  have HA2 := Lib.hid (show W2.heap[W.heap.size]? = some (.cells #[.int .i64 0, .int .i64 0, .int .i64 0, .int .i64 0] 57 (0, 0)) from (hb2.block W.heap.size (by simp)).trans (World.alloc_heap_new W _))
  have hs2 : W.heap.size < W2.heap.size := by have := hb2.size; simp at this; omega
  clear hb2
  go_wp2_with fail
  obtain ⟨W3, hW3⟩ : ∃ W3, W2.alloc (.cells #[.pointer (some ⟨bk, of, none⟩), .int .i64 0, .int .i64 1, .int .i64 1, .int .i64 (ownBytes ns b c : Nat), .int .i64 q0] 82) = W3 := ⟨_, rfl⟩
  have hb3 : Below W2.heap.size W2 W3 := by rw [← hW3]; exact below_alloc' _ _
  have hst : W3.heap[W2.heap.size]? = some (.cells #[.pointer (some ⟨bk, of, none⟩), .int .i64 0, .int .i64 1, .int .i64 1, .int .i64 (ownBytes ns b c : Nat), .int .i64 q0] 82 (0, 0)) := by rw [← hW3]; exact World.alloc_heap_new W2 _
  have HS := Lib.hid (show MSt M W W3 mb kb p (parts a b c).count TB (.slice (some ⟨W2.heap.size, 0, none⟩) 1 1) [⟨bk, of, k, s, n, op, vn, va, vb, vc, ns, a, b, c, .nil, parts a b c, 1, 1, (ownBytes ns b c : Nat), q0⟩] from by
    refine ⟨below_grow' (HB2.out.trans (hb3.mono (Nat.le_of_lt hs2))), ?_, (hb3.block _ hs2).trans HA2.out, ?_, ?_, ?_, ?_, ?_⟩
    · have e := ((HB2.out.trans (hb3.mono (Nat.le_of_lt hs2))).block mb HH.out.hmb).trans HM.out
      simp only [ahead, Nat.add_zero]
      rw [Int.sub_add_cancel]
      exact e
    · refine own_mk hst (by omega) (by simp) (by simp [maxLen]) (by simp) (by simp [encAll, Fr.enc]) (fun i hi => by simp [encAll, Fr.enc, Fx.len])
    · intro f hf
      obtain rfl : f = _ := by simpa using hf
      exact ⟨HL.out, rfl, by dsimp only; omega, by dsimp only; omega, by dsimp only; omega, by dsimp only; omega, by dsimp only; omega⟩
    · simp only [bytesA]; omega
    · simp only [ahead, List.length_cons, List.length_nil]; omega
    · simp only [sizeA]; omega)
  rw [hW3]
  clear hW3 hb3 hst HA2 HB2
  go_loopw [5, 6] (fun u v wr => u = .bool false ∧ ∃ st, st ≠ [] ∧ MSt M W wr mb kb p (parts a b c).count TB v st) (fun _ v wr => 2 * (patOf wr mb - p + ((parts a b c).count : Nat)).toNat + lenOf v)
  case atStart => exact ⟨rfl, _, by simp, HS.out⟩
  case round =>
    clear HS
    obtain ⟨rfl, st, hne, hst⟩ := hrel
    obtain ⟨f, r, rfl⟩ : ∃ f r, st = f :: r := by cases st with | nil => exact absurd rfl hne | cons f r => exact ⟨f, r, rfl⟩
    have hpat := hst.pat
    have HSt := Lib.hid hst
    obtain ⟨g, cap, hv⟩ := own_form6 hst.own
    subst hv
    obtain ⟨cs, hh, hgb, hn, hm, hs, hl, hcx⟩ := own_cells hst.own
    have hok := hst.oks f (by simp)
    have hX := Lib.hid (hst.exl HH.out (f := f) (by simp))
    have hfew := hok.few
    have hpr := hok.pr
    have hge := hst.grow.size
    obtain ⟨t0, t1, t2, t3, t4, t5⟩ := top_at hcx rfl
    cases hf2 : f.f2 with
    | nil =>
      have hlen : f.f1.len = f.a.len + f.b.len + f.c.len := by
        have := congrArg Fx.len hpr
        rw [hf2, Fx.app_nil, parts_len] at this
        omega
      have hpp : 0 < p - ((parts a b c).count : Int) + (ahead (f :: r) : Nat) := by have := H.hp; omega
      cases r with
      | nil =>
        have k0 : wr.cell? ⟨g, 0, none⟩ = some (.pointer (some ⟨f.bk, f.of, none⟩)) := cell_of hh _ _ t0
        have k1 : wr.cell? ⟨g, 1, none⟩ = some (.int .i64 (f.a.len + f.b.len + f.c.len : Nat)) := by rw [← hlen]; exact cell_of hh _ _ t1
        have k2 : wr.cell? ⟨g, 2, none⟩ = some (.int .i64 f.sz) := cell_of hh _ _ t2
        have k3 : wr.cell? ⟨g, 3, none⟩ = some (.int .i64 f.dp) := cell_of hh _ _ t3
        have k4 : wr.cell? ⟨g, 4, none⟩ = some (.int .i64 f.y) := cell_of hh _ _ t4
        have k5 : wr.cell? ⟨g, 5, none⟩ = some (.int .i64 f.q) := cell_of hh _ _ t5
        have hy : f.y = TB ∧ f.sz = ((parts a b c).count : Nat) + 1 := by
          have h1 := hst.sum
          have h2 := hst.szs
          simp only [bytesA, sizeA, hf2, bytesF, Fx.count] at h1 h2
          omega
        have HY := Lib.hid hy
        clear hy
        clear t0 t1 t2 t3 t4 t5 hcx hh hst hok hpat hl hpr
        simp only [List.length_nil, Nat.zero_add]
        go_wp2_with fail
        go_quiet ((go_at_call 31; exact children_qq hX.out (by omega) (by omega) _))
        go_wp2_with fail
        refine region_one 9 (by kernel_rfl) (by kernel_rfl) ?_
        simp only [List.take_succ_cons, List.take_zero, List.drop_succ_cons, List.drop_zero]
        refine swk_want (by rfl) (fun K hK => ?_)
        replace hK := Lib.hid hK
        go_simp
        refine hK.out _ ?_
        clear hK K
        refine swk_want (by rfl) (fun K hK => ?_)
        replace hK := Lib.hid hK
        go_simp
        refine hK.out _ ?_
        clear hK K
        refine swk_want (by rfl) (fun K hK => ?_)
        replace hK := Lib.hid hK
        go_simp
        refine hK.out _ ?_
        clear hK K
        refine swk_want (by rfl) (fun K hK => ?_)
        replace hK := Lib.hid hK
        go_simp
        refine hK.out _ ?_
        clear hK K
        refine swk_want (by rfl) (fun K hK => ?_)
        replace hK := Lib.hid hK
        go_simp
        refine hK.out _ ?_
        clear hK K
        refine swk_want (by rfl) (fun K hK => ?_)
        replace hK := Lib.hid hK
        go_simp
        refine hK.out _ ?_
        clear hK K
        refine swk_want (by rfl) (fun K hK => ?_)
        replace hK := Lib.hid hK
        go_simp
        refine hK.out _ ?_
        clear hK K
        refine swk_want (by rfl) (fun K hK => ?_)
        replace hK := Lib.hid hK
        go_simp
        refine hK.out _ ?_
        clear hK K
        refine swk_want (by rfl) (fun K hK => ?_)
        replace hK := Lib.hid hK
        go_simp
        refine hK.out _ ?_
        clear hK K
        refine swk_nil ?_
        refine one_want rfl (by rfl) (fun K hK => ?_)
        replace hK := Lib.hid hK
        go_simp
        refine (note_lf mb kb _ _ _ _ _ _ _ (show MzAt (wr.drewN (nq + 1)) mb kb _ from HSt.out.mz) hpp).mono ?_
        rintro e w5 ⟨⟨v5, rfl⟩, hb5⟩
        refine hK.out _ _ ?_
        clear hK K
        simp only [List.take_succ_cons, List.take_zero, List.drop_succ_cons, List.drop_zero]
        refine swk_nil ?_
        have hg5 : wr.grownBy w5 none := ⟨hb5.os, hb5.tape, hb5.output, hb5.size, fun i hi _ => hb5.block i hi⟩
        have hst5 := HSt.out.step HH.out hg5
        clear hb5 k0 k1 k2 k3 k4 k5
        obtain ⟨cs, hh, hgb, hn, hm, hs, hl, hcx⟩ := own_cells hst5.own
        obtain ⟨t0, t1, t2, t3, t4, t5⟩ := top_at hcx rfl
        have k2 : w5.cell? ⟨g, 2, none⟩ = some (.int .i64 f.sz) := cell_of hh _ _ t2
        have k3 : w5.cell? ⟨g, 3, none⟩ = some (.int .i64 f.dp) := cell_of hh _ _ t3
        have k4 : w5.cell? ⟨g, 4, none⟩ = some (.int .i64 f.y) := cell_of hh _ _ t4
        have k5 : w5.cell? ⟨g, 5, none⟩ = some (.int .i64 f.q) := cell_of hh _ _ t5
        have a5 := hst5.rb
        have HS5 := Lib.hid hst5
        have x0 : w5.cell? ⟨W.heap.size, 0, none⟩ = some (.int .i64 0) := cell_of a5 0 _ rfl
        have x1 : w5.cell? ⟨W.heap.size, 1, none⟩ = some (.int .i64 0) := cell_of a5 1 _ rfl
        have x2 : w5.cell? ⟨W.heap.size, 2, none⟩ = some (.int .i64 0) := cell_of a5 2 _ rfl
        have x3 : w5.cell? ⟨W.heap.size, 3, none⟩ = some (.int .i64 0) := cell_of a5 3 _ rfl
        have y0 := frozen_of a5 0
        have y1 := frozen_of a5 1
        have y2 := frozen_of a5 2
        have y3 := frozen_of a5 3
        clear t0 t1 t2 t3 t4 t5 hcx hh hl hs hst5 a5
        unfold maxLen at hm
        go_wp2_with fail
        have HA6 := Lib.hid (hp4_set HS5.out.rb f.sz f.dp f.y f.q)
        refine bodyPost_ret (results_ct rfl _ _ W.heap.size 57 #[.int .i64 f.sz, .int .i64 f.dp, .int .i64 f.y, .int .i64 f.q] (0, 0) (.struct extFs) rfl HA6.out under_ext rfl size_ext) rfl ?_
        have hmz : MzAt w5 mb kb (p - ((parts a b c).count : Nat)) := by
          have e : p - ((parts a b c).count : Int) + (ahead [f] : Nat) = p - ((parts a b c).count : Nat) := by simp [ahead, hf2, Fx.count]
          have h5 := HS5.out.mz
          rw [e] at h5
          exact h5
        have hne : mb ≠ W.heap.size := by have := HH.out.hmb; omega
        exact ⟨⟨_, _, _, _, rfl, HY.out.1, HY.out.2⟩, (Below.heap_setCell _ _ _ _ hne).trans ((Below.heap_setCell _ _ _ _ hne).trans ((Below.heap_setCell _ _ _ _ hne).trans ((Below.heap_setCell _ _ _ _ hne).trans hmz))), grow_far (grow_far (grow_far (grow_far HS5.out.grow (mz_set _ _ _ _) (fun q e => by cases e; exact .inr (Nat.le_refl _))) (mz_set _ _ _ _) (fun q e => by cases e; exact .inr (Nat.le_refl _))) (mz_set _ _ _ _) (fun q e => by cases e; exact .inr (Nat.le_refl _))) (mz_set _ _ _ _) (fun q e => by cases e; exact .inr (Nat.le_refl _))⟩
      | cons f2 r2 =>
        obtain ⟨n2, hn2⟩ : ∃ n2, r2.length = n2 := ⟨_, rfl⟩
        have k0 : wr.cell? ⟨g, (n2 + 1) * 6, none⟩ = some (.pointer (some ⟨f.bk, f.of, none⟩)) := by rw [← hn2]; exact cell_of hh _ _ t0
        have k1 : wr.cell? ⟨g, (n2 + 1) * 6 + 1, none⟩ = some (.int .i64 (f.a.len + f.b.len + f.c.len : Nat)) := by rw [← hlen, ← hn2]; exact cell_of hh _ _ t1
        have k2 : wr.cell? ⟨g, (n2 + 1) * 6 + 2, none⟩ = some (.int .i64 f.sz) := by rw [← hn2]; exact cell_of hh _ _ t2
        have k3 : wr.cell? ⟨g, (n2 + 1) * 6 + 2 + 1, none⟩ = some (.int .i64 f.dp) := by rw [← hn2]; exact cell_of hh _ _ t3
        have k4 : wr.cell? ⟨g, (n2 + 1) * 6 + 2 + 2, none⟩ = some (.int .i64 f.y) := by rw [← hn2]; exact cell_of hh _ _ t4
        have k5 : wr.cell? ⟨g, (n2 + 1) * 6 + 2 + 3, none⟩ = some (.int .i64 f.q) := by rw [← hn2]; exact cell_of hh _ _ t5
        have hcnt := hst.cnt
        simp only [List.length_cons, hn2] at hcnt hn
        have hmm := hm
        unfold maxLen at hmm
        have hw2 : IntKind.i64.wrap (n2 : Int) = n2 := by rw [IntKind.wrap_i64]; omega
        have hw3 : (n2 : Int) < n2 + 1 := by omega
        clear t0 t1 t2 t3 t4 t5 hcx hh hst hok hl hpr
        simp only [List.length_cons, hn2]
        go_wp2_with fail
        go_quiet ((go_at_call 31; exact children_qq hX.out (by omega) (by omega) _))
        go_wp2_with fail
        refine region_one 9 (by kernel_rfl) (by kernel_rfl) ?_
        simp only [List.take_succ_cons, List.take_zero, List.drop_succ_cons, List.drop_zero]
        refine swk_want (by rfl) (fun K hK => ?_)
        replace hK := Lib.hid hK
        go_simp
        refine hK.out _ ?_
        clear hK K
        refine swk_want (by rfl) (fun K hK => ?_)
        replace hK := Lib.hid hK
        go_simp
        refine hK.out _ ?_
        clear hK K
        refine swk_want (by rfl) (fun K hK => ?_)
        replace hK := Lib.hid hK
        go_simp
        refine hK.out _ ?_
        clear hK K
        refine swk_want (by rfl) (fun K hK => ?_)
        replace hK := Lib.hid hK
        go_simp
        refine hK.out _ ?_
        clear hK K
        refine swk_want (by rfl) (fun K hK => ?_)
        replace hK := Lib.hid hK
        go_simp
        refine hK.out _ ?_
        clear hK K
        refine swk_want (by rfl) (fun K hK => ?_)
        replace hK := Lib.hid hK
        go_simp
        refine hK.out _ ?_
        clear hK K
        refine swk_want (by rfl) (fun K hK => ?_)
        replace hK := Lib.hid hK
        go_simp
        refine hK.out _ ?_
        clear hK K
        refine swk_want (by rfl) (fun K hK => ?_)
        replace hK := Lib.hid hK
        go_simp
        refine hK.out _ ?_
        clear hK K
        refine swk_want (by rfl) (fun K hK => ?_)
        replace hK := Lib.hid hK
        go_simp
        refine hK.out _ ?_
        clear hK K
        refine swk_nil ?_
        refine one_want rfl (by rfl) (fun K hK => ?_)
        replace hK := Lib.hid hK
        go_simp
        refine (note_lf mb kb _ _ _ _ _ _ _ (show MzAt (wr.drewN (nq + 1)) mb kb _ from HSt.out.mz) hpp).mono ?_
        rintro e w5 ⟨⟨v5, rfl⟩, hb5⟩
        refine hK.out _ _ ?_
        clear hK K
        simp only [List.take_succ_cons, List.take_zero, List.drop_succ_cons, List.drop_zero]
        refine swk_nil ?_
        have hg5 : wr.grownBy w5 none := ⟨hb5.os, hb5.tape, hb5.output, hb5.size, fun i hi _ => hb5.block i hi⟩
        have hst5 := HSt.out.step HH.out hg5
        clear hb5 k0 k1 k2 k3 k4 k5
        obtain ⟨cs, hh, hgb, _, _, hs, hl, hcx⟩ := own_cells hst5.own
        obtain ⟨t0, t1, t2, t3, t4, t5⟩ := top_at hcx rfl
        have k2 : w5.cell? ⟨g, (n2 + 1) * 6 + 2, none⟩ = some (.int .i64 f.sz) := by rw [← hn2]; exact cell_of hh _ _ t2
        have k3 : w5.cell? ⟨g, (n2 + 1) * 6 + 2 + 1, none⟩ = some (.int .i64 f.dp) := by rw [← hn2]; exact cell_of hh _ _ t3
        have k4 : w5.cell? ⟨g, (n2 + 1) * 6 + 2 + 2, none⟩ = some (.int .i64 f.y) := by rw [← hn2]; exact cell_of hh _ _ t4
        have k5 : w5.cell? ⟨g, (n2 + 1) * 6 + 2 + 3, none⟩ = some (.int .i64 f.q) := by rw [← hn2]; exact cell_of hh _ _ t5
        obtain ⟨v0, v1, v2, v3, v4, v5'⟩ := top_at (under_at hcx rfl) rfl
        rw [hn2] at v0 v1 v2 v3 v4 v5'
        have o1 := hst5.oks f (by simp)
        have o2 := hst5.oks f2 (by simp)
        have hsum := hst5.sum
        have hbp := bytesA_pos (st := r2) (fun x hx => hst5.oks x (by simp [hx]))
        simp only [bytesA] at hsum
        have HS5 := Lib.hid hst5
        have HCs := Lib.hid hh
        have HE := Lib.hid (eadd_any g (n2 * 6 + 2) f2.sz f2.dp f2.y f2.q f.sz f.dp f.y f.q cs 82 w5.drew hh v2 v3 v4 v5' o2.sz o2.dp o2.q o1.sz o1.dp o1.q (by omega))
        clear t0 t1 t2 t3 t4 t5 v0 v1 v2 v3 v4 v5' hcx hh hl hs hst5 o1 o2 hsum hbp
        go_wp2_with fail
        refine region_one 10 (by kernel_rfl) (by kernel_rfl) ?_
        simp only [List.take_succ_cons, List.take_zero, List.drop_succ_cons, List.drop_zero]
        refine swk_want (by rfl) (fun K hK => ?_)
        replace hK := Lib.hid hK
        go_simp
        refine hK.out _ ?_
        clear hK K
        refine swk_want (by rfl) (fun K hK => ?_)
        replace hK := Lib.hid hK
        go_simp
        refine hK.out _ ?_
        clear hK K
        refine swk_want (by rfl) (fun K hK => ?_)
        replace hK := Lib.hid hK
        go_simp
        refine hK.out _ ?_
        clear hK K
        refine swk_want (by rfl) (fun K hK => ?_)
        replace hK := Lib.hid hK
        go_simp
        refine hK.out _ ?_
        clear hK K
        refine swk_want (by rfl) (fun K hK => ?_)
        replace hK := Lib.hid hK
        go_simp
        refine hK.out _ ?_
        clear hK K
        refine swk_want (by rfl) (fun K hK => ?_)
        replace hK := Lib.hid hK
        go_simp
        refine hK.out _ ?_
        clear hK K
        refine swk_want (by rfl) (fun K hK => ?_)
        replace hK := Lib.hid hK
        go_simp
        refine hK.out _ ?_
        clear hK K
        refine swk_want (by rfl) (fun K hK => ?_)
        replace hK := Lib.hid hK
        go_simp
        refine hK.out _ ?_
        clear hK K
        refine swk_want (by rfl) (fun K hK => ?_)
        replace hK := Lib.hid hK
        go_simp
        refine hK.out _ ?_
        clear hK K
        refine swk_want (by rfl) (fun K hK => ?_)
        replace hK := Lib.hid hK
        go_simp
        refine hK.out _ ?_
        clear hK K
        refine swk_nil ?_
        refine one_want rfl (by rfl) (fun K hK => ?_)
        replace hK := Lib.hid hK
        go_simp
        refine HE.out.mono ?_
        rintro e w6 ⟨⟨v6, rfl⟩, ⟨d', hw6, hd'⟩, hg6⟩
        refine hK.out _ _ ?_
        clear hK K
        simp only [List.take_succ_cons, List.take_zero, List.drop_succ_cons, List.drop_zero]
        refine swk_nil ?_
        have hS6 := MSt.pop (d' := d') (r := r2) (f := f) (f2 := f2) (HS5.out.step HH.out (mz_drew (grow_draws w5 0))) HH.out hf2 HCs.out (by rw [hn2]; exact hw6) hd' hg6
        rw [hn2] at hS6
        have hpat6 := hS6.pat
        have HS6 := Lib.hid hS6
        clear hS6 hw6 hg6 hd' k2 k3 k4 k5 HE HCs HS5
        go_wp2_with fail
        go_roundw
        case rel => exact ⟨rfl, _, by simp, HS6.out⟩
        case measure =>
          rw [hpat, hpat6]
          simp only [lenOf, ahead, hf2, Fx.count]
          omega
    | cons pc kc sc nc opc nsc xa xb xc xr =>
      obtain ⟨n2, hn2⟩ : ∃ n2, r.length = n2 := ⟨_, rfl⟩
      obtain ⟨pt, hpt⟩ : ∃ pt, p - ((parts a b c).count : Int) + (ahead (f :: r) : Nat) = pt := ⟨_, rfl⟩
      rw [hn2] at t0 t1
      have k0 : wr.cell? ⟨g, n2 * 6, none⟩ = some (.pointer (some ⟨f.bk, f.of, none⟩)) := cell_of hh _ _ t0
      have k1 : wr.cell? ⟨g, n2 * 6 + 1, none⟩ = some (.int .i64 (f.f1.len : Nat)) := cell_of hh _ _ t1
      have hcnt := hst.cnt
      simp only [List.length_cons, hn2] at hcnt hn
      have hmm := hm
      unfold maxLen at hmm
      have hlt : f.f1.len < f.a.len + f.b.len + f.c.len := by
        have := congrArg Fx.len hpr
        rw [hf2, Fx.len_app, parts_len] at this
        simp only [Fx.len] at this
        omega
      have hd1 : ((f.f1.len : Int) == (f.a.len : Int) + f.b.len + f.c.len) = false := by simp; omega
      have hd2 : decide ((f.f1.len : Int) = (f.a.len : Int) + f.b.len + f.c.len) = false := by simp; omega
      rw [hf2] at hpr
      have HPr := Lib.hid hpr
      clear t0 t1 t2 t3 t4 t5 hcx hh hst hok hl hpr
      simp only [hn2]
      go_wp2_with fail
      go_quiet ((go_at_call 31; exact children_qq hX.out (by omega) (by omega) _))
      go_wp2_with fail
      refine region_one 8 (by kernel_rfl) (by kernel_rfl) ?_
      simp only [List.take_succ_cons, List.take_zero, List.drop_succ_cons, List.drop_zero]
      refine swk_want (by rfl) (fun K hK => ?_)
      replace hK := Lib.hid hK
      go_simp
      refine hK.out _ ?_
      clear hK K
      refine swk_want (by rfl) (fun K hK => ?_)
      replace hK := Lib.hid hK
      go_simp
      refine hK.out _ ?_
      clear hK K
      refine swk_want (by rfl) (fun K hK => ?_)
      replace hK := Lib.hid hK
      go_simp
      refine hK.out _ ?_
      clear hK K
      refine swk_want (by rfl) (fun K hK => ?_)
      replace hK := Lib.hid hK
      go_simp
      refine hK.out _ ?_
      clear hK K
      refine swk_want (by rfl) (fun K hK => ?_)
      replace hK := Lib.hid hK
      go_simp
      refine hK.out _ ?_
      clear hK K
      refine swk_want (by rfl) (fun K hK => ?_)
      replace hK := Lib.hid hK
      go_simp
      refine hK.out _ ?_
      clear hK K
      refine swk_want (by rfl) (fun K hK => ?_)
      replace hK := Lib.hid hK
      go_simp
      refine hK.out _ ?_
      clear hK K
      refine swk_want (by rfl) (fun K hK => ?_)
      replace hK := Lib.hid hK
      go_simp
      refine hK.out _ ?_
      clear hK K
      refine swk_nil ?_
      refine one_want rfl (by rfl) (fun K hK => ?_)
      replace hK := Lib.hid hK
      go_simp
      refine Calls.mono (child_any (hX.out.grow (row := none) ⟨rfl, rfl, rfl, Nat.le_refl _, fun _ _ _ => rfl⟩ (fun q e => by cases e) (by omega)) (by omega) HPr.out) ?_
      rintro e w5 ⟨⟨b5, o5, v1, v2, v3, v4, rfl, hx5⟩, hd5⟩
      refine hK.out _ _ ?_
      clear hK K
      simp only [List.take_succ_cons, List.take_zero, List.drop_succ_cons, List.drop_zero]
      refine swk_want (by rfl) (fun K hK => ?_)
      replace hK := Lib.hid hK
      go_simp
      refine hK.out _ ?_
      clear hK K
      refine swk_nil ?_
      have hg5 : wr.grownBy w5 none := by
        obtain ⟨n, rfl⟩ := hd5
        exact ⟨rfl, rfl, rfl, Nat.le_refl _, fun _ _ _ => rfl⟩
      have hst5 := HSt.out.step HH.out hg5
      have HX0 := Lib.hid (ExL.back hx5 (W := W) (grow_far HSt.out.grow (row := none) ⟨rfl, rfl, rfl, Nat.le_refl _, fun _ _ _ => rfl⟩ (fun q e => by cases e)) (fun q e => by cases e; exact HH.out.hM) hMW)
      have hcl5 := HPr.out
      replace hcl5 := congrArg Fx.count hcl5
      rw [Fx.count_app] at hcl5
      simp only [Fx.count] at hcl5
      clear hd5 hx5 k0 k1 hd1 hd2
      obtain ⟨cs, hh, hgb, _, _, hs, hl, hcx⟩ := own_cells hst5.own
      obtain ⟨t0, t1, t2, t3, t4, t5⟩ := top_at hcx rfl
      rw [hn2] at t1
      have hgm : g ≠ mb := by have := HH.out.hmb; omega
      have k1 : w5.cell? ⟨g, n2 * 6 + 1, none⟩ = some (.int .i64 (f.f1.len : Nat)) := cell_of hh _ _ t1
      have f1 := frozen_of hh (n2 * 6 + 1)
      have hmz := hst5.mz
      rw [hpt] at hmz
      have m1 : MzAt (w5.setCell ⟨g, n2 * 6 + 1, none⟩ (.int .i64 ((f.f1.len : Int) + 1))) mb kb pt := (Below.heap_setCell _ _ _ mb (Ne.symm hgm)).trans hmz
      have m2 := (mz_cell m1).1
      have m3 : (w5.setCell ⟨g, n2 * 6 + 1, none⟩ (.int .i64 ((f.f1.len : Int) + 1))).frozen? ⟨mb, 0, none⟩ = false := frozen_of m1 0
      have hptb : 0 < pt ∧ pt ≤ 1048576 := by
        have h1 := H.hp
        have h2 := hst5.cnt
        simp only [List.length_cons] at h2
        omega
      have hwl : IntKind.i64.wrap ((f.f1.len : Int) + 1) = (f.f1.len : Int) + 1 := by rw [IntKind.wrap_i64]; omega
      have hwp : IntKind.i64.wrap (pt - 1) = pt - 1 := by rw [IntKind.wrap_i64]; omega
      have hmid := MSt.adv hst5 HH.out hf2 (pt - 1) (by rw [hpt])
      rw [hn2] at hmid
      have HMd := Lib.hid hmid
      have HCs := Lib.hid hh
      obtain ⟨w6, hw6⟩ : ∃ w6, (w5.setCell ⟨g, n2 * 6 + 1, none⟩ (.int .i64 ((f.f1.len : Int) + 1))).setCell ⟨mb, 0, none⟩ (.int .i64 (pt - 1)) = w6 := ⟨_, rfl⟩
      rw [hw6] at HMd
      have hX6 := Lib.hid (HX0.out.grow HMd.out.grow (fun q e => by cases e; exact HH.out.hM) hMW)
      have hge6 := HMd.out.grow.size
      clear t0 t1 t2 t3 t4 t5 hcx hl hst5 hmz m1 hmid hh
      go_wp2_with fail
      clear hw6 k1 f1 m2 m3 hwl hwp
      have hcl6 : xa.len + xb.len + xc.len ≤ xa.count + xb.count + xc.count := by have := xa.len_le; have := xb.len_le; have := xc.len_le; omega
      have hcl7 : 1 + (xa.count + xb.count + xc.count) + xr.count ≤ 131072 := by
        simp only [ahead, hf2, Fx.count] at hcnt
        omega
      have hge7 : M ≤ w6.heap.size := by omega
      have hmw6 := hge6
      by_cases hz : xa.len + xb.len + xc.len = 0
      · obtain rfl : xa = .nil := Fx.len_zero (by omega)
        obtain rfl : xb = .nil := Fx.len_zero (by omega)
        obtain rfl : xc = .nil := Fx.len_zero (by omega)
        have HM6 := Lib.hid (show MMid M W w6 mb kb p (parts a b c).count TB (.slice (some ⟨g, 0, none⟩) (n2 + 1) cap) ({ f with f1 := f.f1.app (.cons pc kc sc nc opc nsc .nil .nil .nil .nil), f2 := xr } :: r) ((ownBytes nsc .nil .nil : Nat) : Int) 1 from by
          have := HMd.out
          simpa [Fx.count, bytesF] using this)
        go_at_call 31
        refine (children_any hX6.out (by omega)).mono ?_
        rintro e w7 ⟨rfl, hd7⟩
        have hg7 : w6.grownBy w7 none := by
          obtain ⟨n, rfl⟩ := hd7
          exact ⟨rfl, rfl, rfl, Nat.le_refl _, fun _ _ _ => rfl⟩
        have HX7 := Lib.hid (hX6.out.grow hg7 (fun q e => by cases e) hge7)
        have HM7 := Lib.hid (HM6.out.step hg7)
        have hge8 := hg7.size
        clear hd7 hg7
        simp only [Fx.len]
        go_wp2_with fail
        have hob8 : 16 * (0 + 0 + nameCnt nsc .nil) ≤ ownBytes nsc .nil .nil ∧ 136 ≤ ownBytes nsc .nil .nil ∧ (ownBytes nsc .nil .nil : Int) ≤ TB := by
          refine ⟨(ownBytes_le nsc .nil .nil).1, (ownBytes_le nsc .nil .nil).2, ?_⟩
          have h1 := HM7.out.sum
          have h2 := bytesA_pos HM7.out.oks
          omega
        go_region_held3 (fun _ => True) (trivial) (first
          | (go_at_call 30; refine Calls.mono (extent_any (HX7.out.grow (row := none) ⟨rfl, rfl, rfl, Nat.le_refl _, fun _ _ _ => rfl⟩ (fun q e => by cases e) (by omega)) (by simp; omega) (by simp only [Fx.len]; omega)) ?_; rintro e w8 ⟨⟨q8, rfl, hq8, hq9⟩, hb8⟩; have HG8 := Lib.hid (show w7.grownBy w8 none from ⟨hb8.os, hb8.tape, hb8.output, hb8.size, fun i hi _ => hb8.block i hi⟩); have HM8 := Lib.hid (HM7.out.step HG8.out); clear hb8)
          | (go_at_call 33; refine (MMid.add HM8.out HH.out hn2 rfl (by omega) (by omega) ⟨hq8, hq9⟩).mono ?_; rintro e w9 ⟨⟨v9, rfl⟩, f9, hf9, hS9⟩))
        have hpat9 := hS9.pat
        have HS9 := Lib.hid hS9
        clear hS9
        go_wp2_with fail
        go_roundw
        case rel => exact ⟨rfl, _, by simp, HS9.out⟩
        case measure =>
          rw [hpat, hpat9]
          simp only [lenOf, ahead, hf2, hf9, Fx.count]
          omega
      · have hlk := fun W => look_known W kb (some ⟨b5, o5, none⟩)
        go_at_call 31
        refine (children_any hX6.out (by omega)).mono ?_
        rintro e w7 ⟨rfl, hd7⟩
        have hg7 : w6.grownBy w7 none := by
          obtain ⟨n, rfl⟩ := hd7
          exact ⟨rfl, rfl, rfl, Nat.le_refl _, fun _ _ _ => rfl⟩
        have HX7 := Lib.hid (hX6.out.grow hg7 (fun q e => by cases e) hge7)
        have HM7 := Lib.hid (HMd.out.step hg7)
        have hge8 := hg7.size
        have hd1 : ((xa.len : Int) + xb.len + xc.len == 0) = false := by simp; omega
        have hd2 : decide ((xa.len : Int) + xb.len + xc.len = 0) = false := by simp; omega
        have hn3 : n2 + 1 ≤ 131071 := by
          have h1 := HM7.out.cnt
          simp only [List.length_cons, hn2] at h1
          omega
        have hd3 : ((n2 : Int) + 1 == 131072) = false := by simp; omega
        have hd4 : decide ((n2 : Int) + 1 = 131072) = false := by simp; omega
        have hk7 : w7.heap[kb]? = some (.map #[] 0) := (HM7.out.grow.block kb (Array.getElem?_eq_some_iff.1 HH.out.hkb).1 (by have := HH.out.hne; simp [this])).trans HH.out.hkb
        replace hlk := hlk w7 hk7
        have m1 : w7.cell? ⟨mb, 1, none⟩ = some (.map (some kb)) := cell_of HM7.out.mz 1 _ rfl
        have hob8 : 16 * (xb.len + xc.len + nameCnt nsc xc) ≤ ownBytes nsc xb xc ∧ 136 ≤ ownBytes nsc xb xc ∧ (ownBytes nsc xb xc : Int) ≤ TB := by
          refine ⟨(ownBytes_le nsc xb xc).1, (ownBytes_le nsc xb xc).2, ?_⟩
          have h1 := HM7.out.sum
          have h2 := bytesA_pos HM7.out.oks
          omega
        have hub : Tryz.prog.underlying 83 = some (.slice 82) := by kernel_rfl
        obtain ⟨i0, hi, hz0, hz1, hz2⟩ := info_of info_stay
        have HI := Lib.hid (And.intro hi (And.intro hz0 (And.intro hz1 hz2)))
        clear hd7 hg7 hi hz0 hz1 hz2
        go_wp2_with fail
        refine Calls.mono (extent_any (HX7.out.grow (below_grow' (row := none) (below_alloc' _ _)) (fun q e => by cases e) (by omega)) (by simp; omega) (by omega)) ?_
        rintro e w8 ⟨⟨q8, rfl, hq8, hq9⟩, hb8⟩
        have hg8 : w7.grownBy w8 none := grow_none ((below_alloc' w7 (.cells #[.int .i64 0, .int .i64 0, .int .i64 0, .int .i64 0] 57)).trans (hb8.mono (by simp)))
        have HM8 := Lib.hid (HM7.out.step hg8)
        have hge9 := hg8.size
        have hob9 := hm
        clear hb8 hg8 hlk m1 hk7
        have hown8 := HM8.out.own
        rw [List.length_cons, hn2] at hown8
        have HO8 := Lib.hid hown8
        clear hown8
        go_wp2_with (at_builtin; refine wpList_append_lies _ rfl _ _ _ rfl (W.heap.size + 1) 82 i0 _ 6 48 hub HI.out.1 HI.out.2.1 HI.out.2.2.1 HI.out.2.2.2 rfl (by decide) _ (n2 + 1) _ rfl (HO8.out.alloc _) ⟨w8.heap.size, 0, none⟩ 1 1 [.pointer (some ⟨b5, o5, none⟩), .int .i64 0, .int .i64 1, .int .i64 1, .int .i64 (ownBytes nsc xb xc : Nat), .int .i64 q8] rfl rfl (World.news_of_block (World.alloc_heap_new w8 _)) (by simp [Value.oneCell']) (by omega) (by simp [maxLen]; omega) (by omega) (by simp; omega) _ rfl ?_; intro g9 cap9 w9 hown9 hgrow hat hlt9; have HW9 := Lib.hid (And.intro hown9 hgrow); clear hown9 hgrow hat)
        have e1 : ((ownBytes nsc xb xc + (bytesF xa + bytesF xb + bytesF xc) : Nat) : Int) = ((ownBytes nsc xb xc : Nat) : Int) + (bytesF (parts xa xb xc) : Nat) := by rw [bytes_parts]; omega
        have e2 : 1 + (xa.count + xb.count + xc.count) = 1 + (parts xa xb xc).count := by rw [parts_count]; omega
        have hM9 := HM8.out.step (below_grow' (row := none) (below_alloc' w8 (.cells #[.pointer (some ⟨b5, o5, none⟩), .int .i64 0, .int .i64 1, .int .i64 1, .int .i64 (ownBytes nsc xb xc : Nat), .int .i64 q8] 82)))
        rw [e1, e2] at hM9
        have hS9 := MMid.push (f := ⟨b5, o5, kc, sc, nc, opc, v1, v2, v3, v4, nsc, xa, xb, xc, .nil, parts xa xb xc, 1, 1, (ownBytes nsc xb xc : Nat), q8⟩) (v' := .slice (some ⟨g9, 0, none⟩) (n2 + 1 + 1) cap9) hM9 HH.out
          ⟨HX0.out, rfl, by dsimp only; omega, by dsimp only; omega, ⟨hq8, hq9⟩, by dsimp only; omega, by dsimp only; omega⟩ rfl (by simp only [List.length_cons, hn2]; exact HW9.out.1) HW9.out.2
        have hpat9 := hS9.pat
        refine ⟨⟨rfl, _, by simp, hS9⟩, ?_⟩
        rw [hpat, hpat9]
        simp only [lenOf, ahead, hf2, Fx.count, parts_count]
        omega
end Go.Proofs.YtfcogjlojfcfkaaGreat
