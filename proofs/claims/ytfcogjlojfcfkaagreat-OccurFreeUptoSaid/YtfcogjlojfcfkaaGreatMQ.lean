/- The contract of the iterator over the parts into which counting goes. A bound on how many parts there are. -/
import Derived.Test.YtfcogjlojfcfkaaGreatMN
import Derived.Test.YtfcogjlojfcfkaaGreatMO
import Derived.Test.YtfcogjlojfcfkaaGreatMP
import Derived.Deep.RegionHeld3
import Derived.Shelf.RegionOpen
import Derived.OwnWalkIn
import Derived.TacticsInMore
import Derived.LoopNIn
import Derived.LoopIn
namespace Go.Proofs.YtfcogjlojfcfkaaGreat
open Go.RowKit Go.Shelf Ex0
attribute [local go_sem] bt_size bt_list bt_toList Oper.semAt_some

/-- A part, and where it lies. -/
structure Pt where
  (bk of : Nat) (pr : Pre) (k : Int) (s : List UInt8) (n op : Int) (ns : List (List UInt8)) (a b c : Fx)
def Pt.fx (x : Pt) (r : Fx) : Fx := .cons x.pr x.k x.s x.n x.op x.ns x.a x.b x.c r
def Pt.cost (x : Pt) : Nat := costE x.ns x.a x.b x.c
def Pt.enc (x : Pt) : Array Value := #[.pointer (some ⟨x.bk, x.of, none⟩)]
/-- At a place lies an expression. -/
structure ExL (M : Nat) (w : World) (bk of : Nat) (k : Int) (s : List UInt8) (n op : Int) (vn va vb vc : Value) (ns : List (List UInt8)) (a b c : Fx) : Prop where
  lt : bk < M
  c0 : w.cell? ⟨bk, of, none⟩ = some (.int .i64 k)
  c1 : w.cell? ⟨bk, of + 1, none⟩ = some (.string (bt s))
  c2 : w.cell? ⟨bk, of + 2, none⟩ = some (.int .i64 n)
  c3 : w.cell? ⟨bk, of + 3, none⟩ = some (.int .i64 op)
  c4 : w.cell? ⟨bk, of + 4, none⟩ = some vn
  c5 : w.cell? ⟨bk, of + 5, none⟩ = some va
  c6 : w.cell? ⟨bk, of + 6, none⟩ = some vb
  c7 : w.cell? ⟨bk, of + 7, none⟩ = some vc
  ex : ExV (Old M) w vn va vb vc ns a b c
theorem ExL.ct {M cb : Nat} {w w' : World} {bk of : Nat} {k : Int} {s : List UInt8} {n op : Int} {vn va vb vc : Value} {ns : List (List UInt8)} {a b c : Fx} (h : ExL M w bk of k s n op vn va vb vc ns a b c) (ct : Ct cb w w') (hM : M ≤ cb) (hw : M ≤ w.heap.size) :
    ExL M w' bk of k s n op vn va vb vc ns a b c :=
  have q := fun o => (ct.below hM hw).cell (p := ⟨bk, o, none⟩) h.lt
  ⟨h.lt, (q _).trans h.c0, (q _).trans h.c1, (q _).trans h.c2, (q _).trans h.c3, (q _).trans h.c4, (q _).trans h.c5, (q _).trans h.c6, (q _).trans h.c7, h.ex.keep (keep_ct ct hM hw)⟩
/-- The two boxes and the expressions lie as they lay. -/
structure Lk (cb M bx1 bx2 : Nat) (w0 W : World) : Prop where
  hM : M ≤ cb
  h1 : bx1 ≠ cb
  h2 : bx2 ≠ cb
  l1 : bx1 < w0.heap.size
  l2 : bx2 < w0.heap.size
  lM : M ≤ w0.heap.size
  size : w0.heap.size ≤ W.heap.size
  blk : ∀ b, b < M ∨ b = bx1 ∨ b = bx2 → W.heap[b]? = w0.heap[b]?
theorem Lk.step {cb M bx1 bx2 r : Nat} {w0 W W' : World} (h : Lk cb M bx1 bx2 w0 W) (k : Ct r W W') (hr : M ≤ r ∧ bx1 ≠ r ∧ bx2 ≠ r) : Lk cb M bx1 bx2 w0 W' :=
  ⟨h.hM, h.h1, h.h2, h.l1, h.l2, h.lM, Nat.le_trans h.size k.size, fun b hb => by
    refine (k.g.block b ?_ ?_).trans (h.blk b hb)
    · have := h.size; have := h.l1; have := h.l2; have := h.lM; omega
    · intro e; cases e; have := hr.1; have := hr.2; omega⟩
theorem Lk.ct {cb M bx1 bx2 : Nat} {w0 W W' : World} (h : Lk cb M bx1 bx2 w0 W) (k : Ct cb W W') : Lk cb M bx1 bx2 w0 W' := h.step k ⟨h.hM, h.h1, h.h2⟩
theorem Lk.cell1 {cb M bx1 bx2 o : Nat} {w0 W : World} (h : Lk cb M bx1 bx2 w0 W) : W.cell? ⟨bx1, o, none⟩ = w0.cell? ⟨bx1, o, none⟩ := World.cell?_of_block (h.blk bx1 (.inr (.inl rfl)))
theorem Lk.cell2 {cb M bx1 bx2 o : Nat} {w0 W : World} (h : Lk cb M bx1 bx2 w0 W) : W.cell? ⟨bx2, o, none⟩ = w0.cell? ⟨bx2, o, none⟩ := World.cell?_of_block (h.blk bx2 (.inr (.inr rfl)))
theorem Lk.cellM {cb M bx1 bx2 b o : Nat} {w0 W : World} (h : Lk cb M bx1 bx2 w0 W) (hb : b < M) : W.cell? ⟨b, o, none⟩ = w0.cell? ⟨b, o, none⟩ := World.cell?_of_block (h.blk b (.inl hb))
theorem Lk.keep {cb M bx1 bx2 : Nat} {w0 W : World} (h : Lk cb M bx1 bx2 w0 W) : Keep (Old M) (Old M) w0 W := fun _ hb => ⟨hb, fun _ => h.cellM hb⟩
theorem ExL.lk {cb M bx1 bx2 : Nat} {w w' : World} {bk of : Nat} {k : Int} {s : List UInt8} {n op : Int} {vn va vb vc : Value} {ns : List (List UInt8)} {a b c : Fx} (h : ExL M w bk of k s n op vn va vb vc ns a b c) (q : Lk cb M bx1 bx2 w w') : ExL M w' bk of k s n op vn va vb vc ns a b c :=
  ⟨h.lt, (q.cellM h.lt).trans h.c0, (q.cellM h.lt).trans h.c1, (q.cellM h.lt).trans h.c2, (q.cellM h.lt).trans h.c3, (q.cellM h.lt).trans h.c4, (q.cellM h.lt).trans h.c5, (q.cellM h.lt).trans h.c6, (q.cellM h.lt).trans h.c7, h.ex.keep q.keep⟩
/-- What stands ahead of the expressions of a row. -/
def pres : Fx → List Pre
  | .nil => []
  | .cons p _ _ _ _ _ _ _ _ r => p :: pres r
/-- Which part may come next. -/
def okPt (M : Nat) (w0 : World) (V : Fx) (lo : Int) (s : Fx × Int) (x : Pt) : Prop := (∃ r, V = s.1.app (x.fx r)) ∧ (∃ vn va vb vc, ExL M w0 x.bk x.of x.k x.s x.n x.op vn va vb vc x.ns x.a x.b x.c) ∧ (x.cost : Int) + lo ≤ s.2
/-- What is so behind a part. -/
def nxPt (s : Fx × Int) (x : Pt) (s' : Fx × Int) : Prop := s'.1 = s.1.app (x.fx .nil) ∧ s.2 - x.cost ≤ s'.2 ∧ s'.2 ≤ s.2

/-- What is so behind a region. -/
def Mid (A : Act) (R : World → Prop) : Exit → Act → World → Prop
  | .normal, a, w => a = A ∧ R w
  | _, _, _ => False
theorem mid_mk {A a : Act} {R : World → Prop} {w : World} (ha : a = A) (h : R w) : Mid A R .normal a w := ⟨ha, h⟩
/-- What is so behind a region, and what comes then. -/
theorem wp_mid {P : Program} {c : Code} {Q : Exit → Act → World → Prop} {a : Act} {w : World} (R : World → Prop) (h : ∃ A, c.wp P (Mid A R) a w ∧ ∀ w', R w' → Q .normal A w') : c.wp P Q a w := by
  obtain ⟨A, h1, h2⟩ := h
  refine wp_mono h1 ?_
  intro e a' w' h
  cases e with
  | normal => obtain ⟨rfl, h⟩ := h; exact h2 w' h
  | ret => exact h.elim
  | exit id => exact h.elim
  | goto t => exact h.elim
  | panic ch => exact h.elim
  | outgrown => exact h.elim
theorem hid_vis {x : List UInt8} {k : Int} {s : List UInt8} {nn op : Int} {ns : List (List UInt8)} {a b c : Fx} (h : ((k == 1) = true → a = .nil) ∧ ((k == 3) = false → ns = []) ∧ ((k == 5) = false → b = .nil) ∧ ((k == 6) = false → c = .nil))
    (hh : (decide (x ∈ ns) || bindsX x b) = true) : (k == 6) = false ∧ c = .nil ∧ vis x k s ns a b c = .nil := by
  have hk : (k == 6) = false := by
    cases hk : (k == 6) with
    | false => rfl
    | true =>
      have hk6 : k = 6 := by simpa using hk
      subst hk6
      rw [h.2.1 rfl, h.2.2.1 rfl] at hh
      simp [bindsX] at hh
  refine ⟨hk, h.2.2.2 hk, ?_⟩
  unfold vis
  rw [hh, h.2.2.2 hk]
  rfl

set_option maxHeartbeats 4000000 in
set_option maxRecDepth 100000 in
/-- Where the name is among an expression's own names, it goes into none. -/
theorem iter_among (cb kb M bx1 bx2 eb eo : Nat) (x : List UInt8) (k : Int) (s : List UInt8) (nn op : Int) (vn va vb vc : Value) (ns : List (List UInt8)) (a b c : Fx) (w0 : World) (J : Fx × Int → World → Prop) (K : World → Prop) (l : Nat) (p0 lo : Int) (W : World)
    (hM : M ≤ cb) (hMw : M ≤ w0.heap.size) (hown : ownB k s nn op ns a.len b.len c = true) (hcnt : (parts a b c).count ≤ 1048576) (hns : ns.length ≤ 1048576) (hans : ∀ p ∈ pres c, p.cost ≤ 1048576)
    (he : ExL M w0 eb eo k s nn op vn va vb vc ns a b c) (hb1 : w0.cell? ⟨bx1, 0, none⟩ = some (.pointer (some ⟨cb, 0, none⟩))) (hb2 : w0.cell? ⟨bx2, 0, none⟩ = some (.pointer (some ⟨eb, eo, none⟩))) (hne : bx1 ≠ cb ∧ bx2 ≠ cb)
    (hJc : ∀ s W, J s W → Ctr W cb kb x s.2 ∧ Lk cb M bx1 bx2 w0 W ∧ s.2 ≤ 1048576) (hJs : ∀ s W W' p', J s W → Ct cb W W' → Ctr W' cb kb x p' → p' ≤ s.2 → lo ≤ p' → J (s.1, p') W') (hKs : ∀ W W', K W → Ct cb W W' → K W')
    (hY : ∀ t y W, J t W → K W → okPt M w0 (vis x k s ns a b c) lo t y → YieldAt Fence.wide 2 Tryz.prog l y.enc W fun e W' => e = .returned (.bool true) ∧ ∃ t', nxPt t y t' ∧ J t' W' ∧ K W')
    (h0 : J (.nil, p0) W) (hK0 : K W) (hlo : 0 ≤ lo) (hp0 : (ns.length : Int) + b.len + (a.cost + b.cost + c.cost) + lo ≤ p0) (hq : decide (x ∈ ns) = true) :
    CallsIn Fence.wide 3 Tryz.prog 48 #[.func (.yield l) #[] #[], .pointer (some ⟨bx1, 0, none⟩), .pointer (some ⟨bx2, 0, none⟩)] W fun e W' => (∃ v, e = .returned v) ∧ ∃ t, t.1 = vis x k s ns a b c ∧ J t W' ∧ K W' := by
  obtain ⟨an, cn, rfl⟩ := he.ex.ns.slice
  obtain ⟨aa, ca, rfl⟩ := he.ex.a.slice
  obtain ⟨ab, cb', rfl⟩ := he.ex.b.slice
  obtain ⟨ac, cc, rfl⟩ := he.ex.c.slice
  have hJ0 := hJc _ _ h0
  have HE := Lib.hid he
  have HW0 := Lib.hid hJ0.2.1
  have HEW := Lib.hid (he.lk hJ0.2.1)
  have hp1 : p0 ≤ 1048576 := hJ0.2.2
  have HC0 := Lib.hid hJ0.1
  have hMW : M ≤ W.heap.size := Nat.le_trans hMw hJ0.2.1.size
  have hlen : a.len + b.len + c.len ≤ 1048576 := by have := (parts a b c).len_le; rw [parts_len] at this; omega
  have HO := Lib.hid (own_no hown)
  have HJ0 := Lib.hid h0
  have HK0 := Lib.hid hK0
  have HC := Lib.hid (show ∀ w', Lk cb M bx1 bx2 w0 w' → w'.cell? ⟨bx1, 0, none⟩ = some (.pointer (some ⟨cb, 0, none⟩)) ∧ w'.cell? ⟨bx2, 0, none⟩ = some (.pointer (some ⟨eb, eo, none⟩)) ∧ w'.cell? ⟨eb, eo, none⟩ = some (.int .i64 k) ∧ w'.cell? ⟨eb, eo + 1, none⟩ = some (.string (bt s)) ∧ w'.cell? ⟨eb, eo + 4, none⟩ = some (.slice an ns.length cn) ∧ w'.cell? ⟨eb, eo + 5, none⟩ = some (.slice aa a.len ca) ∧ w'.cell? ⟨eb, eo + 6, none⟩ = some (.slice ab b.len cb') ∧ w'.cell? ⟨eb, eo + 7, none⟩ = some (.slice ac c.len cc) from
    fun w' h => ⟨h.cell1.trans hb1, h.cell2.trans hb2, (HE.out.lk h).c0, (HE.out.lk h).c1, (HE.out.lk h).c4, (HE.out.lk h).c5, (HE.out.lk h).c6, (HE.out.lk h).c7⟩)
  obtain ⟨e1, e2, _, _, e4, _, e6, _⟩ := HC.out _ HW0.out
  have hp00 : 0 ≤ p0 := by omega
  have hw0W := HW0.out.size
  clear hJ0 he h0 hK0 hown hb1 hb2 hne
  obtain ⟨hk6, hcn, hv⟩ := hid_vis (s := s) (nn := nn) (op := op) HO.out (by rw [hq]; rfl)
  have HV := Lib.hid hv
  subst hcn
  clear hv HO
  refine callsIn_of_wp Tryz.func48 rfl trivial ?_ rfl
  simp only [Tryz.ntmps48, List.size_toArray, List.length_cons, List.length_nil, Nat.reduceAdd, Nat.reduceSub, Array.replicate_succ, Array.replicate_zero, List.push_toArray, List.append_toArray, List.nil_append, List.cons_append]
  gi_wp2_with fail
  refine wpIn_wide.2 ?_
  refine wp_mid (fun w' => Lk cb M bx1 bx2 w0 w' ∧ Ct cb W w' ∧ Ctr w' cb kb x (p0 - ns.length)) ⟨{ tmps := #[.func (.yield l) #[] #[], .pointer (some ⟨bx1, 0, none⟩), .pointer (some ⟨bx2, 0, none⟩), undef, undef, undef, undef, .pointer (some ⟨cb, 0, none⟩), .pointer (some ⟨eb, eo, none⟩), .pointer (some ⟨eb, eo, none⟩), .pointer (some ⟨eb, eo + 4, none⟩), .slice an ns.length cn, .bool true, .bool false, .bool false, undef, undef, undef, undef, undef, undef, undef, .bool false, undef, undef, undef, undef, undef, undef, undef, undef, undef, undef, undef, undef, undef, undef, undef, undef, undef, undef, undef, undef, undef, undef, undef, undef, undef, undef, undef, undef, undef, undef, undef, undef, undef, undef, undef, undef, undef, undef, undef, undef, undef, undef, undef, undef, undef, undef, undef, undef, undef, undef, undef, undef, undef, undef, undef, undef, undef, undef, undef, undef, undef, undef, undef, undef, undef, undef, undef, undef, undef, undef, undef, undef, undef, undef, undef, undef, undef, undef, undef, undef, undef, undef, undef, undef, undef], defers := [] }, ?_, ?_⟩
  · go_region_with (go_at_call 49; have hcon := among_any cb kb _ ns x p0 _ M hns (HEW.out.ex.ns.keep (keep_ct (Ct.drew cb W) hM hMW)) hM hMW HC0.out.drew ⟨hp00, hp1⟩; rw [hq] at hcon; refine hcon.mono ?_; clear hcon; rintro e w5 ⟨rfl, ct5, cr5⟩; have HT5 := Lib.hid (And.intro (HW0.out.ct ((Ct.drew cb W).trans ct5)) cr5); have HS5 := Lib.hid ((Ct.drew cb W).trans ct5); clear ct5 cr5)
    all_goals exact mid_mk rfl ⟨HT5.out.1, HS5.out, HT5.out.2⟩
  rintro w5 ⟨ct5, cs5, cr5⟩
  have HT5 := Lib.hid (And.intro ct5 cr5)
  have HS5 := Lib.hid cs5
  obtain ⟨g1, g2, g0, _, _, _, _, g7⟩ := HC.out _ ct5
  clear ct5 cr5 cs5
  gi_wp2_with fail
  refine wpIn_wide.2 ?_
  go_quiet (fail)
  gi_wp2_with fail
  gi_loopw [81] (fun i wr => i = .int .i64 0 ∧ Ct cb W wr ∧ Ctr wr cb kb x (p0 - ns.length)) (fun _ _ => 0)
  case atStart => exact ⟨rfl, HS5.out.same rfl rfl rfl rfl, HT5.out.2⟩
  case round =>
    obtain ⟨rfl, ct, cr⟩ := hrel
    have HT := Lib.hid (And.intro ct cr)
    clear ct cr
    gi_wp2_with fail
    go_end0
    exact ⟨⟨_, rfl⟩, (.nil, p0 - ns.length), HV.out.symm, hJs _ _ _ _ HJ0.out HT.out.1 HT.out.2 (by dsimp only; omega) (by omega), hKs _ _ HK0.out HT.out.1⟩
end Go.Proofs.YtfcogjlojfcfkaaGreat
