/- Arguments that are expressions are opened: they lie in memory as forests. No condition. -/
import Derived.Test.YtfcogjlojfcfkaaGreatMA
import Derived.JoinedCond
import Derived.Carry
import Derived.OpenShut
import Derived.Deep.Slices
import Derived.ChangeSame
import Derived.Test.YtfcogjlojfcfkaaGreatMN
import Derived.Test.YtfcogjlojfcfkaaGreatMC
section
namespace Go.Proofs.YtfcogjlojfcfkaaGreat.Ex0
open Go Go.RowKit Go.ChangeShapes Go.WideShapes Go.Deep

/-- A program's types of expressions (T), binds (TB), alternatives (TA), and of slices of strings (NS), expressions (ES), binds (BS), alternatives (AS). -/
structure ExProg (P : Program) (T TB TA St NS ES BS AS : TypeId) (fs fb fa : Array Field) : Prop where
  under : P.underlying T = some (.struct fs)
  size : fs.size = 8
  cells : P.cellsOf T = 8
  f0 : (fs[0]?).map (fun f => (f.offset, P.cellsOf f.type, P.underlying f.type)) = some (0, 1, some (.int .i64))
  f1 : (fs[1]?).map (fun f => (f.offset, P.cellsOf f.type, P.underlying f.type)) = some (1, 1, some .string)
  f2 : (fs[2]?).map (fun f => (f.offset, P.cellsOf f.type, P.underlying f.type)) = some (2, 1, some (.int .i64))
  f3 : (fs[3]?).map (fun f => (f.offset, P.cellsOf f.type, P.underlying f.type)) = some (3, 1, some (.int .i64))
  f4 : (fs[4]?).map (fun f => (f.offset, P.cellsOf f.type, f.type)) = some (4, 1, NS)
  f5 : (fs[5]?).map (fun f => (f.offset, P.cellsOf f.type, f.type)) = some (5, 1, ES)
  f6 : (fs[6]?).map (fun f => (f.offset, P.cellsOf f.type, f.type)) = some (6, 1, BS)
  f7 : (fs[7]?).map (fun f => (f.offset, P.cellsOf f.type, f.type)) = some (7, 1, AS)
  underB : P.underlying TB = some (.struct fb)
  sizeB : fb.size = 2
  cellsB : P.cellsOf TB = 9
  b0 : (fb[0]?).map (fun f => (f.offset, P.cellsOf f.type, P.underlying f.type)) = some (0, 1, some .string)
  b1 : (fb[1]?).map (fun f => (f.offset, P.cellsOf f.type, f.type)) = some (1, 8, T)
  underA : P.underlying TA = some (.struct fa)
  sizeA : fa.size = 5
  cellsA : P.cellsOf TA = 12
  a0 : (fa[0]?).map (fun f => (f.offset, P.cellsOf f.type, P.underlying f.type)) = some (0, 1, some (.int .i64))
  a1 : (fa[1]?).map (fun f => (f.offset, P.cellsOf f.type, P.underlying f.type)) = some (1, 1, some .string)
  a2 : (fa[2]?).map (fun f => (f.offset, P.cellsOf f.type, P.underlying f.type)) = some (2, 1, some (.int .i64))
  a3 : (fa[3]?).map (fun f => (f.offset, P.cellsOf f.type, f.type)) = some (3, 1, NS)
  a4 : (fa[4]?).map (fun f => (f.offset, P.cellsOf f.type, f.type)) = some (4, 8, T)
  string : P.underlying St = some .string
  cellsS : P.cellsOf St = 1
  sliceN : P.underlying NS = some (.slice St)
  sliceE : P.underlying ES = some (.slice T)
  sliceB : P.underlying BS = some (.slice TB)
  sliceA : P.underlying AS = some (.slice TA)

/-- A measure of readings. -/
structure Bulk {H : Type} (bk : DataW H → Nat) : Prop where
  agg : ∀ l, (l.map bk).sum + 1 ≤ bk (.agg l)
  slice : ∀ l r, (l.map bk).sum + 1 ≤ bk (.slice l r)
  str : ∀ l : List UInt8, l.length + 1 ≤ bk (.lit (.string l))
  pos : ∀ d, 1 ≤ bk d

def nsWt (ns : List (List UInt8)) : Nat := (ns.map fun s => s.length + 1).sum
def Pre.wt : Pre → Nat
  | .no => 0
  | .bind s => s.length + 1
  | .alt _ s _ ns => s.length + nsWt ns + 4
/-- How much a forest is at least. -/
def Fx.wt : Fx → Nat
  | .nil => 0
  | .cons p _ s _ _ ns a b c r => p.wt + s.length + nsWt ns + a.wt + b.wt + c.wt + 9 + r.wt
theorem Fx.count_wt9 (f : Fx) : 9 * f.count ≤ f.wt := by
  induction f with
  | nil => exact Nat.le_refl _
  | cons p k s n op ns a b c r iha ihb ihc ihr => simp only [Fx.count, Fx.wt]; omega
theorem Fx.count_wt (f : Fx) : 8 * f.count ≤ f.wt := by
  induction f with
  | nil => exact Nat.le_refl _
  | cons p k s n op ns a b c r iha ihb ihc ihr => simp only [Fx.count, Fx.wt]; omega
theorem Fx.wt_app (f g : Fx) : (f.app g).wt = f.wt + g.wt := by
  induction f with
  | nil => simp [Fx.app, Fx.wt]
  | cons p k s n op ns a b c r _ _ _ ih => simp only [Fx.app, Fx.wt, ih]; omega

theorem cell_block {w : World} {b o : Nat} {s : Option Nat} {v : Value} (h : w.cell? ⟨b, o, s⟩ = some v) : b < w.heap.size := by
  rcases Nat.lt_or_ge b w.heap.size with hlt | hge
  · exact hlt
  · have : w.heap[b]? = none := by simp; omega
    simp [World.cell?, this] at h

section
variable {H : Type} {enc : TypeId × Value → H} {P : Program} {w : World} {base : Nat} {held : Bool}

/-- A row, given what its elements are. -/
theorem row_trod {bk : DataW H → Nat} (hbk : Bulk bk) {E S : TypeId} {m : Nat} (hS : P.underlying S = some (.slice E)) (hc8 : P.cellsOf E = m + 8) {n : Nat} {c : Value} {x : DataW H × List MemPlace}
    (el : ∀ q, q < n → ∀ (b o : Nat) (cs : List Value) (y : DataW H × List MemPlace), (∀ j, j < m + 8 → w.cell? ⟨b, o + j, none⟩ = cs[j]?) → DataW.trod enc P w base (fun _ => true) held q E cs = some y →
      ∃ e : Fx, e.len = 1 ∧ FxAt (Old w.heap.size) w m b o e ∧ e.wt ≤ bk y.1)
    (h : DataW.trod enc P w base (fun _ => true) held n S [c] = some x) : ∃ f, FxV (Old w.heap.size) w m c f ∧ f.wt + 1 ≤ bk x.1 := by
  rcases DataW.trod_slice hS h with ⟨hc, hy⟩ | ⟨a, len, cap, elems, rest, q, rfl, hc, hy, _, hl, hm, hel, hi, _, _⟩
  · simp only [List.cons.injEq, and_true] at hc
    subst hc
    exact ⟨.nil, .inl ⟨rfl, _, _, rfl⟩, by simp only [Fx.wt]; exact hbk.pos _⟩
  · simp only [List.cons.injEq, and_true] at hc
    subst hc
    rw [hc8] at hi
    by_cases h0 : len = 0
    · subst h0
      exact ⟨.nil, .inl ⟨rfl, _, _, rfl⟩, by simp only [Fx.wt]; exact hbk.pos _⟩
    · obtain ⟨b, off, spot⟩ := a
      have hsp : spot = none ∧ b < w.heap.size := by
        have h1 := hi 0 (by omega)
        rw [List.getElem?_eq_getElem (by omega)] at h1
        obtain ⟨cs', hc', _⟩ := Option.bind_eq_some_iff.1 h1
        obtain ⟨hlen', _, hat⟩ := World.cells?_some hc'
        have h2 := hat 0 (by omega)
        rw [List.getElem?_eq_getElem (by omega)] at h2
        have hs : spot = none := World.cell?_spot (a := ⟨b, off, spot⟩) (by simpa [Addr.add] using h2)
        subst hs
        have hadd : ∀ k, (Addr.mk b off none).add k = ⟨b, off + k, none⟩ := fun k => by unfold Addr.add; split <;> simp_all
        rw [Nat.zero_mul, hadd] at h2
        have h3 : (Addr.mk b (off + 0) none).add 0 = ⟨b, off + 0 + 0, none⟩ := by unfold Addr.add; split <;> simp_all
        rw [h3] at h2
        exact ⟨rfl, cell_block h2⟩
      obtain ⟨rfl, hb⟩ := hsp
      have hadd : ∀ k, (Addr.mk b off none).add k = ⟨b, off + k, none⟩ := fun k => by unfold Addr.add; split <;> simp_all
      have key : ∀ i (hil : i < len), ∃ e : Fx, e.len = 1 ∧ FxAt (Old w.heap.size) w m b (off + i * (m + 8)) e ∧ e.wt ≤ bk (elems[i]'(by omega)).1 := by
        intro i hil
        have h1 := hi i hil
        rw [List.getElem?_eq_getElem (by omega)] at h1
        obtain ⟨cs', hc', ht'⟩ := Option.bind_eq_some_iff.1 h1
        obtain ⟨_, _, hat⟩ := World.cells?_some hc'
        refine el q (by omega) b _ cs' _ (fun j hj => ?_) ht'
        have h2 := hat j hj
        rw [hadd] at h2
        have h3 : (Addr.mk b (off + i * (m + 8)) none).add j = ⟨b, off + i * (m + 8) + j, none⟩ := by unfold Addr.add; split <;> simp_all
        rw [h3] at h2
        exact h2
      have build : ∀ j, j ≤ len → ∃ f : Fx, f.len = j ∧ FxAt (Old w.heap.size) w m b off f ∧ f.wt ≤ ((elems.take j).map (fun y => bk y.1)).sum := by
        intro j
        induction j with
        | zero => intro _; exact ⟨.nil, rfl, trivial, Nat.zero_le _⟩
        | succ j ihj =>
          intro hj
          obtain ⟨f, hf1, hf2, hf3⟩ := ihj (by omega)
          obtain ⟨e, he1, he2, he3⟩ := key j (by omega)
          refine ⟨f.app e, by rw [Fx.len_app, hf1, he1], FxAt.app.2 ⟨hf2, by rw [hf1]; exact he2⟩, ?_⟩
          rw [Fx.wt_app, List.take_succ_eq_append_getElem (by omega), List.map_append, List.sum_append]
          simp only [List.map_cons, List.map_nil, List.sum_cons, List.sum_nil]
          omega
      obtain ⟨f, hfl, hff, hfw⟩ := build len (Nat.le_refl _)
      rw [List.take_of_length_le (by omega)] at hfw
      refine ⟨f, .inr ⟨?_, b, off, cap, by rw [hfl], hb, by omega, hm, hff⟩, ?_⟩
      · rintro rfl
        simp [Fx.len] at hfl
        omega
      · have h1 := hbk.slice (elems.map (·.1)) (rest.map (·.1))
        rw [hy]
        simp only [List.map_map, Function.comp_def] at h1 ⊢
        omega

/-- A slice of strings. -/
theorem ns_trod {bk : DataW H → Nat} (hbk : Bulk bk) {St NS : TypeId} (hst : P.underlying St = some .string) (hc1 : P.cellsOf St = 1) (hS : P.underlying NS = some (.slice St)) {n : Nat} {c : Value} {x : DataW H × List MemPlace}
    (h : DataW.trod enc P w base (fun _ => true) held n NS [c] = some x) : ∃ ns, NsV (Old w.heap.size) w c ns ∧ nsWt ns + 1 ≤ bk x.1 := by
  rcases DataW.trod_slice hS h with ⟨hc, hy⟩ | ⟨a, len, cap, elems, rest, q, rfl, hc, hy, _, hl, hm, hel, hi, _, _⟩
  · simp only [List.cons.injEq, and_true] at hc
    subst hc
    exact ⟨[], .inl ⟨rfl, _, _, rfl⟩, by simp only [nsWt, List.map_nil, List.sum_nil]; exact hbk.pos _⟩
  · simp only [List.cons.injEq, and_true] at hc
    subst hc
    rw [hc1] at hi
    by_cases h0 : len = 0
    · subst h0
      exact ⟨[], .inl ⟨rfl, _, _, rfl⟩, by simp only [nsWt, List.map_nil, List.sum_nil]; exact hbk.pos _⟩
    · obtain ⟨b, off, spot⟩ := a
      have key0 : ∀ i (hil : i < len), ∃ s : List UInt8, w.cell? ((Addr.mk b off spot).add i) = some (.string (bt s)) ∧ s.length + 1 ≤ bk (elems[i]'(by omega)).1 := by
        intro i hil
        have h1 := hi i hil
        rw [List.getElem?_eq_getElem (by omega), Nat.mul_one] at h1
        obtain ⟨cs', hc', ht'⟩ := Option.bind_eq_some_iff.1 h1
        obtain ⟨s1, e1, d1, _⟩ := DataW.trod_string hst ht'
        subst e1
        obtain ⟨_, _, hat⟩ := World.cells?_some hc'
        refine ⟨s1.data.toList, ?_, ?_⟩
        · have h2 := hat 0 (by omega)
          rw [← bt_of]
          simpa [Addr.add] using h2
        · rw [d1]; exact hbk.str _
      have hsp : spot = none := by
        obtain ⟨s, hs, _⟩ := key0 0 (by omega)
        exact World.cell?_spot (a := ⟨b, off, spot⟩) (by simpa [Addr.add] using hs)
      subst hsp
      have hadd : ∀ k, (Addr.mk b off none).add k = ⟨b, off + k, none⟩ := fun k => by unfold Addr.add; split <;> simp_all
      simp only [hadd] at key0
      have hb : b < w.heap.size := by
        obtain ⟨s, hs, _⟩ := key0 0 (by omega)
        exact cell_block hs
      have build : ∀ j, j ≤ len → ∃ ns : List (List UInt8), ns.length = j ∧ NsAt w b off ns ∧ nsWt ns ≤ ((elems.take j).map (fun y => bk y.1)).sum := by
        intro j
        induction j with
        | zero => intro _; exact ⟨[], rfl, fun i hi => by simp at hi, Nat.zero_le _⟩
        | succ j ihj =>
          intro hj
          obtain ⟨ns, h1, h2, h3⟩ := ihj (by omega)
          obtain ⟨s, hs, hw⟩ := key0 j (by omega)
          refine ⟨ns ++ [s], by simp [h1], fun i hi => ?_, ?_⟩
          · by_cases hlt : i < ns.length
            · rw [List.getElem_append_left hlt]; exact h2 i hlt
            · have : i = j := by simp at hi; omega
              subst this
              rw [List.getElem_append_right (by omega)]
              simpa using hs
          · unfold nsWt at h3 ⊢
            rw [List.map_append, List.sum_append, List.take_succ_eq_append_getElem (by omega), List.map_append, List.sum_append]
            simp only [List.map_cons, List.map_nil, List.sum_cons, List.sum_nil]
            omega
      obtain ⟨ns, hnl, hnn, hnw⟩ := build len (Nat.le_refl _)
      rw [List.take_of_length_le (by omega)] at hnw
      refine ⟨ns, .inr ⟨?_, b, off, cap, by rw [hnl], hb, by omega, hm, hnn⟩, ?_⟩
      · rintro rfl
        simp at hnl
        omega
      · have h1 := hbk.slice (elems.map (·.1)) (rest.map (·.1))
        rw [hy]
        simp only [List.map_map, Function.comp_def] at h1 ⊢
        omega

theorem fld {fs : Array Field} {i o c : Nat} {t : TypeId} {n : Nat} {cs : List Value} {y : DataW H × List MemPlace} (hf : ∀ f, fs[i]? = some f → DataW.trod enc P w base (fun _ => true) held n f.type ((cs.drop f.offset).take (P.cellsOf f.type)) = some y)
    (h : (fs[i]?).map (fun f => (f.offset, P.cellsOf f.type, f.type)) = some (o, c, t)) : DataW.trod enc P w base (fun _ => true) held n t ((cs.drop o).take c) = some y := by
  obtain ⟨f, hfj, he⟩ := Option.map_eq_some_iff.1 h
  simp only [Prod.mk.injEq] at he
  have h1 := hf f hfj
  rw [he.1, he.2.1, he.2.2] at h1
  exact h1
theorem fldu {fs : Array Field} {i o c : Nat} {u : Option TypeDesc} {n : Nat} {cs : List Value} {y : DataW H × List MemPlace} (hf : ∀ f, fs[i]? = some f → DataW.trod enc P w base (fun _ => true) held n f.type ((cs.drop f.offset).take (P.cellsOf f.type)) = some y)
    (h : (fs[i]?).map (fun f => (f.offset, P.cellsOf f.type, P.underlying f.type)) = some (o, c, u)) : ∃ t, P.underlying t = u ∧ DataW.trod enc P w base (fun _ => true) held n t ((cs.drop o).take c) = some y := by
  obtain ⟨f, hfj, he⟩ := Option.map_eq_some_iff.1 h
  simp only [Prod.mk.injEq] at he
  have h1 := hf f hfj
  rw [he.1, he.2.1] at h1
  exact ⟨_, he.2.2, h1⟩

variable {T TB TA St NS ES BS AS : TypeId} {fs fb fa : Array Field}

/-- An expression's cells. -/
theorem ex_trod {bk : DataW H → Nat} (hbk : Bulk bk) (hp : ExProg P T TB TA St NS ES BS AS fs fb fa) : ∀ (n : Nat) (cs : List Value) (x : DataW H × List MemPlace), DataW.trod enc P w base (fun _ => true) held n T cs = some x →
    ∃ (k : Int) (s : List UInt8) (nn op : Int) (vn va vb vc : Value) (ns : List (List UInt8)) (a b c : Fx), cs = [.int .i64 k, .string (bt s), .int .i64 nn, .int .i64 op, vn, va, vb, vc] ∧ ExV (Old w.heap.size) w vn va vb vc ns a b c ∧
      s.length + nsWt ns + a.wt + b.wt + c.wt + 9 ≤ bk x.1 := by
  intro n
  induction n using Nat.strongRecOn with
  | _ n ih =>
  intro cs x h
  obtain ⟨ys, m, rfl, hx, hlen, hyl, hf⟩ := DataW.trod_struct hp.under h
  rw [hp.cells] at hlen
  rw [hp.size] at hyl
  have elT : ∀ q, q < m + 1 → ∀ (b o : Nat) (cs : List Value) (y : DataW H × List MemPlace), (∀ j, j < 0 + 8 → w.cell? ⟨b, o + j, none⟩ = cs[j]?) → DataW.trod enc P w base (fun _ => true) held q T cs = some y →
      ∃ e : Fx, e.len = 1 ∧ FxAt (Old w.heap.size) w 0 b o e ∧ e.wt ≤ bk y.1 := by
    intro q hq b o cs y hcs hy
    obtain ⟨k, s, nn, op, vn, va, vb, vc, ns, f1, f2, f3, rfl, hv, hw⟩ := ih q hq cs y hy
    refine ⟨.cons .no k s nn op ns f1 f2 f3 .nil, rfl, fxAt_cons.2 ⟨rfl, ?_⟩, by simp only [Fx.wt, Pre.wt]; omega⟩
    exact ⟨hcs 0 (by omega), hcs 1 (by omega), hcs 2 (by omega), hcs 3 (by omega), ⟨vn, va, vb, vc, hcs 4 (by omega), hcs 5 (by omega), hcs 6 (by omega), hcs 7 (by omega), hv⟩, trivial⟩
  have elB : ∀ q, q < m + 1 → ∀ (b o : Nat) (cs : List Value) (y : DataW H × List MemPlace), (∀ j, j < 1 + 8 → w.cell? ⟨b, o + j, none⟩ = cs[j]?) → DataW.trod enc P w base (fun _ => true) held q TB cs = some y →
      ∃ e : Fx, e.len = 1 ∧ FxAt (Old w.heap.size) w 1 b o e ∧ e.wt ≤ bk y.1 := by
    intro q hq b o cs y hcs hy
    obtain ⟨zs, m', rfl, hz, hzl, hzs, hzf⟩ := DataW.trod_struct hp.underB hy
    rw [hp.cellsB] at hzl
    rw [hp.sizeB] at hzs
    match cs, hzl, zs, hzs, hz, hzf with
    | [c0, c1, c2, c3, c4, c5, c6, c7, c8], _, [z0, z1], _, hz, hzf =>
      obtain ⟨_, u0, t0⟩ := fldu (i := 0) (y := z0) (fun f hf => hzf 0 f hf) hp.b0
      have t1 := fld (i := 1) (y := z1) (fun f hf => hzf 1 f hf) hp.b1
      obtain ⟨s0, e0, d0, _⟩ := DataW.trod_string u0 t0
      obtain ⟨k, s, nn, op, vn, va, vb, vc, ns, f1, f2, f3, e1, hv, hw⟩ := ih m' (by omega) _ _ t1
      simp only [List.drop_zero, List.take_succ_cons, List.take_zero, List.cons.injEq, and_true] at e0
      simp only [List.drop_succ_cons, List.drop_zero, List.take_succ_cons, List.take_zero, List.cons.injEq, and_true] at e1
      subst e0
      obtain ⟨rfl, rfl, rfl, rfl, rfl, rfl, rfl, rfl⟩ := e1
      refine ⟨.cons (.bind s0.data.toList) k s nn op ns f1 f2 f3 .nil, rfl, fxAt_cons.2 ⟨⟨rfl, hcs 0 (by omega)⟩, ?_⟩, ?_⟩
      · exact ⟨hcs 1 (by omega), hcs 2 (by omega), hcs 3 (by omega), hcs 4 (by omega), ⟨_, _, _, _, hcs 5 (by omega), hcs 6 (by omega), hcs 7 (by omega), hcs 8 (by omega), hv⟩, trivial⟩
      · have h1 := hbk.agg [z0.1, z1.1]
        have h2 := hbk.str s0.data.toList
        rw [hz]
        simp only [List.map_cons, List.map_nil, List.sum_cons, List.sum_nil, d0, Fx.wt, Pre.wt] at h1 ⊢
        omega
  have elA : ∀ q, q < m + 1 → ∀ (b o : Nat) (cs : List Value) (y : DataW H × List MemPlace), (∀ j, j < 4 + 8 → w.cell? ⟨b, o + j, none⟩ = cs[j]?) → DataW.trod enc P w base (fun _ => true) held q TA cs = some y →
      ∃ e : Fx, e.len = 1 ∧ FxAt (Old w.heap.size) w 4 b o e ∧ e.wt ≤ bk y.1 := by
    intro q hq b o cs y hcs hy
    obtain ⟨zs, m', rfl, hz, hzl, hzs, hzf⟩ := DataW.trod_struct hp.underA hy
    rw [hp.cellsA] at hzl
    rw [hp.sizeA] at hzs
    match cs, hzl, zs, hzs, hz, hzf with
    | [c0, c1, c2, c3, c4, c5, c6, c7, c8, c9, c10, c11], _, [z0, z1, z2, z3, z4], _, hz, hzf =>
      obtain ⟨_, u0, t0⟩ := fldu (i := 0) (y := z0) (fun f hf => hzf 0 f hf) hp.a0
      obtain ⟨_, u1, t1⟩ := fldu (i := 1) (y := z1) (fun f hf => hzf 1 f hf) hp.a1
      obtain ⟨_, u2, t2⟩ := fldu (i := 2) (y := z2) (fun f hf => hzf 2 f hf) hp.a2
      have t3 := fld (i := 3) (y := z3) (fun f hf => hzf 3 f hf) hp.a3
      have t4 := fld (i := 4) (y := z4) (fun f hf => hzf 4 f hf) hp.a4
      obtain ⟨n0, e0, _, _⟩ := DataW.trod_int u0 t0
      obtain ⟨s1, e1, d1, _⟩ := DataW.trod_string u1 t1
      obtain ⟨n2, e2, _, _⟩ := DataW.trod_int u2 t2
      simp only [List.drop_zero, List.drop_succ_cons, List.take_succ_cons, List.take_zero, List.cons.injEq, and_true] at e0 e1 e2 t3
      obtain ⟨ns0, hn0, hnw⟩ := ns_trod hbk hp.string hp.cellsS hp.sliceN t3
      obtain ⟨k, s, nn, op, vn, va, vb, vc, ns, f1, f2, f3, e4, hv, hw⟩ := ih m' (by omega) _ _ t4
      simp only [List.drop_succ_cons, List.drop_zero, List.take_succ_cons, List.take_zero, List.cons.injEq, and_true] at e4
      subst e0 e1 e2
      obtain ⟨rfl, rfl, rfl, rfl, rfl, rfl, rfl, rfl⟩ := e4
      refine ⟨.cons (.alt n0 s1.data.toList n2 ns0) k s nn op ns f1 f2 f3 .nil, rfl, fxAt_cons.2 ⟨⟨rfl, hcs 0 (by omega), hcs 1 (by omega), hcs 2 (by omega), _, hcs 3 (by omega), hn0⟩, ?_⟩, ?_⟩
      · exact ⟨hcs 4 (by omega), hcs 5 (by omega), hcs 6 (by omega), hcs 7 (by omega), ⟨_, _, _, _, hcs 8 (by omega), hcs 9 (by omega), hcs 10 (by omega), hcs 11 (by omega), hv⟩, trivial⟩
      · have h1 := hbk.agg [z0.1, z1.1, z2.1, z3.1, z4.1]
        have h2 := hbk.str s1.data.toList
        have h3 := hbk.pos z0.1
        have h4 := hbk.pos z2.1
        rw [hz]
        simp only [List.map_cons, List.map_nil, List.sum_cons, List.sum_nil, d1, Fx.wt, Pre.wt] at h1 ⊢
        omega
  match cs, hlen, ys, hyl, hx, hf with
  | [c0, c1, c2, c3, c4, c5, c6, c7], _, [y0, y1, y2, y3, y4, y5, y6, y7], _, hx, hf =>
    obtain ⟨_, u0, t0⟩ := fldu (i := 0) (y := y0) (fun f h => hf 0 f h) hp.f0
    obtain ⟨_, u1, t1⟩ := fldu (i := 1) (y := y1) (fun f h => hf 1 f h) hp.f1
    obtain ⟨_, u2, t2⟩ := fldu (i := 2) (y := y2) (fun f h => hf 2 f h) hp.f2
    obtain ⟨_, u3, t3⟩ := fldu (i := 3) (y := y3) (fun f h => hf 3 f h) hp.f3
    have t4 := fld (i := 4) (y := y4) (fun f h => hf 4 f h) hp.f4
    have t5 := fld (i := 5) (y := y5) (fun f h => hf 5 f h) hp.f5
    have t6 := fld (i := 6) (y := y6) (fun f h => hf 6 f h) hp.f6
    have t7 := fld (i := 7) (y := y7) (fun f h => hf 7 f h) hp.f7
    obtain ⟨n0, e0, _, _⟩ := DataW.trod_int u0 t0
    obtain ⟨s1, e1, d1, _⟩ := DataW.trod_string u1 t1
    obtain ⟨n2, e2, _, _⟩ := DataW.trod_int u2 t2
    obtain ⟨n3, e3, _, _⟩ := DataW.trod_int u3 t3
    simp only [List.drop_zero, List.drop_succ_cons, List.take_succ_cons, List.take_zero, List.cons.injEq, and_true] at e0 e1 e2 e3 t4 t5 t6 t7
    subst e0 e1 e2 e3
    obtain ⟨ns, hn, hnw⟩ := ns_trod hbk hp.string hp.cellsS hp.sliceN t4
    obtain ⟨fa, ha, haw⟩ := row_trod hbk (m := 0) hp.sliceE hp.cells (fun q hq => elT q (by omega)) t5
    obtain ⟨fb, hb, hbw⟩ := row_trod hbk (m := 1) hp.sliceB hp.cellsB (fun q hq => elB q (by omega)) t6
    obtain ⟨fc, hc, hcw⟩ := row_trod hbk (m := 4) hp.sliceA hp.cellsA (fun q hq => elA q (by omega)) t7
    refine ⟨n0, s1.data.toList, n2, n3, c4, c5, c6, c7, ns, fa, fb, fc, rfl, ⟨hn, ha, hb, hc⟩, ?_⟩
    have h1 := hbk.agg [y0.1, y1.1, y2.1, y3.1, y4.1, y5.1, y6.1, y7.1]
    have h2 := hbk.str s1.data.toList
    have h3 := hbk.pos y0.1
    have h4 := hbk.pos y2.1
    have h5 := hbk.pos y3.1
    rw [hx]
    simp only [List.map_cons, List.map_nil, List.sum_cons, List.sum_nil, d1] at h1 ⊢
    omega
end
end Go.Proofs.YtfcogjlojfcfkaaGreat.Ex0
end

section
namespace Go.Proofs.YtfcogjlojfcfkaaGreat.Ex0
open Go Go.RowKit

def Pre.cost : Pre → Nat
  | .alt _ _ _ ns => ns.length
  | _ => 0
/-- How many steps it takes to count in a row. -/
def Fx.cost : Fx → Nat
  | .nil => 0
  | .cons p _ _ _ _ ns a b c r => p.cost + (1 + ns.length + b.len + (a.cost + b.cost + c.cost)) + r.cost
def costE (ns : List (List UInt8)) (a b c : Fx) : Nat := 1 + ns.length + b.len + (a.cost + b.cost + c.cost)
theorem nsWt_len (ns : List (List UInt8)) : ns.length ≤ nsWt ns := by
  unfold nsWt
  induction ns with
  | nil => exact Nat.le_refl _
  | cons s l ih => simp only [List.length_cons, List.map_cons, List.sum_cons]; omega
theorem cost_wt (f : Fx) : f.cost + f.len ≤ f.wt := by
  induction f with
  | nil => exact Nat.le_refl _
  | cons p k s n op ns a b c r iha ihb ihc ihr =>
    have h1 := nsWt_len ns
    have h2 : p.cost ≤ p.wt := by
      cases p with
      | no => exact Nat.le_refl _
      | bind s => exact Nat.zero_le _
      | alt k s n ns => have := nsWt_len ns; simp only [Pre.cost, Pre.wt]; omega
    simp only [Fx.cost, Fx.len, Fx.wt]
    omega
theorem costE_wt (ns : List (List UInt8)) (a b c : Fx) : costE ns a b c ≤ 1 + (a.wt + b.wt + c.wt + nsWt ns) := by
  have h1 := nsWt_len ns
  have h2 := cost_wt a
  have h3 := cost_wt b
  have h4 := cost_wt c
  unfold costE
  omega
theorem cost_app (f g : Fx) : (f.app g).cost = f.cost + g.cost := by
  induction f with
  | nil => simp [Fx.app, Fx.cost]
  | cons p k s n op ns a b c r _ _ _ ih => simp only [Fx.app, Fx.cost, ih]; omega

theorem or_add (u v : Nat) (p q : Bool) : ((p || decide (0 < u)) || (q || decide (0 < v))) = ((p || q) || decide (0 < u + v)) := by
  cases p with
  | true => simp
  | false =>
    cases q with
    | true => simp
    | false =>
      by_cases h : 0 < u
      · have h' : 0 < u + v := by omega
        simp [h, h']
      · have h0 : u = 0 := by omega
        subst h0
        simp
theorem anyU_lam (x : List UInt8) (lam : Bool) (f : Fx) : anyU x lam f = (anyU x false f || (lam && decide (0 < sumU x f))) := by
  cases lam with
  | false => simp
  | true =>
    induction f with
    | nil => simp [anyU, sumU]
    | cons p k s n op ns a b c r _ _ _ ih =>
      simp only [anyU, sumU, ih, Bool.and_true, Bool.and_false, Bool.or_false, Bool.true_and]
      exact or_add _ _ _ _

/-- The parts of an expression into which counting a name goes. -/
def vis (x : List UInt8) (k : Int) (s : List UInt8) (ns : List (List UInt8)) (a b c : Fx) : Fx := (if decide (x ∈ ns) || bindsX x b then Fx.nil else a.app b).app (c.sel (altSees x k s))
theorem sel_nil (q : Pre → Bool) : Fx.nil.sel q = .nil := rfl
theorem len_pos {f : Fx} (h : decide (0 < f.len) = false) : f = .nil := Fx.len_zero (by simpa using h)
end Go.Proofs.YtfcogjlojfcfkaaGreat.Ex0

namespace Go.Proofs.YtfcogjlojfcfkaaGreat
open Go Go.RowKit Ex0
theorem own_no {k : Int} {s : List UInt8} {n op : Int} {ns : List (List UInt8)} {a b c : Fx} (h : ownB k s n op ns a.len b.len c = true) :
    ((k == 1) = true → a = .nil) ∧ ((k == 3) = false → ns = []) ∧ ((k == 5) = false → b = .nil) ∧ ((k == 6) = false → c = .nil) := by
  unfold ownB bad1 bad2 at h
  simp only [Bool.and_eq_true, Bool.not_eq_true', Bool.or_eq_false_iff] at h
  obtain ⟨⟨h1, h2⟩, h3⟩ := h
  refine ⟨fun h => ?_, fun h => ?_, fun h => ?_, fun h => ?_⟩
  · have hk : k = 1 := by simpa using h
    subst hk
    exact len_pos (by have := h2.1.2; simpa [oneB, subsB] using this)
  · have := h1.1.1.2
    have hk : (k != 3) = true := by simp only [bne, h]; rfl
    rw [hk] at this
    simpa using this
  · have := h1.1.2
    have hk : (k != 5) = true := by simp only [bne, h]; rfl
    rw [hk] at this
    exact len_pos (by simpa using this)
  · have := h1.2
    have hk : (k != 6) = true := by simp only [bne, h]; rfl
    rw [hk] at this
    exact len_pos (by simpa using this)

/-- How often a Var itself is the name. -/
def ownU (x : List UInt8) (k : Int) (s : List UInt8) : Nat := if (k == 1) && decide (s = x) then 1 else 0
theorem uses_vis {x : List UInt8} {k : Int} {s : List UInt8} {n op : Int} {ns : List (List UInt8)} {a b c : Fx} (h : ownB k s n op ns a.len b.len c = true) :
    usesE x k s ns a b c = (ownU x k s + sumU x (vis x k s ns a b c), anyU x false (vis x k s ns a b c) || ((k == 3) && decide (0 < ownU x k s + sumU x (vis x k s ns a b c)))) := by
  obtain ⟨p1, p3, p5, p6⟩ := own_no h
  cases h1 : (k == 1) with
  | true =>
    have hk : k = 1 := by simpa using h1
    subst hk
    obtain rfl := p1 h1
    obtain rfl := p3 rfl
    obtain rfl := p5 rfl
    obtain rfl := p6 rfl
    rw [usesE_var rfl]
    have hv : vis x 1 s [] .nil .nil .nil = .nil := by unfold vis; rfl
    rw [hv]
    simp [ownU, sumU, anyU]
  | false =>
    have ho : ownU x k s = 0 := by unfold ownU; rw [h1]; rfl
    rw [ho, Nat.zero_add]
    by_cases h3 : ((k == 3) && decide (x ∈ ns)) = true
    · simp only [Bool.and_eq_true, decide_eq_true_eq] at h3
      have hk : k = 3 := by simpa using h3.1
      subst hk
      obtain rfl := p6 rfl
      rw [usesE_lam rfl rfl h3.2]
      have hv : vis x 3 s ns a b .nil = .nil := by unfold vis; rw [decide_eq_true h3.2]; rfl
      rw [hv]
      simp [sumU, anyU]
    · simp only [Bool.not_eq_true] at h3
      by_cases h5 : ((k == 5) && bindsX x b) = true
      · simp only [Bool.and_eq_true] at h5
        have hk : k = 5 := by simpa using h5.1
        subst hk
        obtain rfl := p6 rfl
        rw [usesE_let rfl rfl rfl h5.2]
        have hv : vis x 5 s ns a b .nil = .nil := by unfold vis; rw [h5.2, Bool.or_true]; rfl
        rw [hv]
        simp [sumU, anyU]
      · simp only [Bool.not_eq_true] at h5
        rw [usesE_open h1 h3 h5]
        have hn : decide (x ∈ ns) = false := by
          cases hk : (k == 3) with
          | true => rw [hk] at h3; simpa using h3
          | false => rw [p3 hk]; simp
        have hb : bindsX x b = false := by
          cases hk : (k == 5) with
          | true => rw [hk] at h5; simpa using h5
          | false => rw [p5 hk]; rfl
        have hv : vis x k s ns a b c = (a.app b).app (c.sel (altSees x k s)) := by unfold vis; rw [hn, hb]; rfl
        rw [hv, Fx.app_app]
        unfold open'
        rw [sumU_bare, anyU_bare, anyU_lam]
end Go.Proofs.YtfcogjlojfcfkaaGreat
end
