/- What is asked of the replacer's copy. No condition. -/
import Derived.Test.YtfcogjlojfcfkaaGreatMX
import Derived.Test.YtfcogjlojfcfkaaGreatMY
import Derived.Test.YtfcogjlojfcfkaaGreatNA
import Derived.Test.YtfcogjlojfcfkaaGreatMB
section
namespace Go.Proofs.YtfcogjlojfcfkaaGreat
open Go.RowKit Ex0
attribute [local go_sem] bt_size bt_list bt_toList

/-- Blocks that came in, and such as have been made between two times. -/
def Amid (M lo hi : Nat) : Nat → Prop := fun b => b < M ∨ (lo ≤ b ∧ b < hi)
/-- At a place that is not the replacer's lies an expression. -/
structure ExR (rb M : Nat) (w : World) (bk of : Nat) (k : Int) (s : List UInt8) (n op : Int) (vn va vb vc : Value) (ns : List (List UInt8)) (a b c : Fx) : Prop where
  lt : bk < w.heap.size
  ne : bk ≠ rb
  c0 : w.cell? ⟨bk, of, none⟩ = some (.int .i64 k)
  c1 : w.cell? ⟨bk, of + 1, none⟩ = some (.string (bt s))
  c2 : w.cell? ⟨bk, of + 2, none⟩ = some (.int .i64 n)
  c3 : w.cell? ⟨bk, of + 3, none⟩ = some (.int .i64 op)
  c4 : w.cell? ⟨bk, of + 4, none⟩ = some vn
  c5 : w.cell? ⟨bk, of + 5, none⟩ = some va
  c6 : w.cell? ⟨bk, of + 6, none⟩ = some vb
  c7 : w.cell? ⟨bk, of + 7, none⟩ = some vc
  ex : ExV (Old M) w vn va vb vc ns a b c
theorem ExL.toR {rb M : Nat} {w : World} {bk of : Nat} {k : Int} {s : List UInt8} {n op : Int} {vn va vb vc : Value} {ns : List (List UInt8)} {a b c : Fx} (h : ExL M w bk of k s n op vn va vb vc ns a b c) (hM : M ≤ rb) (hw : M ≤ w.heap.size) : ExR rb M w bk of k s n op vn va vb vc ns a b c :=
  ⟨Nat.lt_of_lt_of_le h.lt hw, by have := h.lt; omega, h.c0, h.c1, h.c2, h.c3, h.c4, h.c5, h.c6, h.c7, h.ex⟩
/-- Behind what turns the replacer's block, or new ones. -/
theorem ExR.grow {rb M : Nat} {w w' : World} {bk of : Nat} {k : Int} {s : List UInt8} {n op : Int} {vn va vb vc : Value} {ns : List (List UInt8)} {a b c : Fx} (h : ExR rb M w bk of k s n op vn va vb vc ns a b c) (t : w.grownBy w' (some rb)) (hM : M ≤ rb) (hw : M ≤ w.heap.size) : ExR rb M w' bk of k s n op vn va vb vc ns a b c :=
  have c := fun o => World.cell?_of_block (w := w) (w' := w') (a := ⟨bk, o, none⟩) (t.block bk h.lt (fun e => h.ne (Option.some.inj e)))
  ⟨Nat.lt_of_lt_of_le h.lt t.size, h.ne, (c _).trans h.c0, (c _).trans h.c1, (c _).trans h.c2, (c _).trans h.c3, (c _).trans h.c4, (c _).trans h.c5, (c _).trans h.c6, (c _).trans h.c7,
    h.ex.keep fun b hb => ⟨hb, fun o => World.cell?_of_block (w := w) (w' := w') (a := ⟨b, o, none⟩) (t.block b (Nat.lt_of_lt_of_le hb hw) (fun e => by have := Option.some.inj e; have : b < M := hb; omega))⟩⟩
/-- How much room a copy may take. -/
def need (YB : Nat) (op : Bool) (c : Nat) : Nat := if op then YB * (1 + c) else 0
theorem need_le {YB : Nat} {op o : Bool} {c c' : Nat} (h : o = true → op = true) (hc : c ≤ c') : need YB o c ≤ need YB op c' := by
  unfold need
  cases o with
  | false => simp
  | true =>
    rw [h rfl]
    simp only [if_true]
    exact Nat.mul_le_mul_left _ (by omega)
/-- What comes of a copy. -/
def CopyPost (M rb ybk yof : Nat) (x : List UInt8) (YB : Nat) (op : Bool) (cnt : Nat) (z : By) (W : World) (room : Int) (e : Ending) (w' : World) : Prop :=
  ∃ vn va vb vc, e = .returned (exV z.k z.s z.n z.op vn va vb vc) ∧ ExV (Amid M W.heap.size w'.heap.size) w' vn va vb vc z.ns z.a z.b z.c ∧ (∃ room', RpAt w' rb x ⟨ybk, yof, none⟩ YB room' ∧ room - need YB op cnt ≤ room' ∧ room' ≤ room) ∧ W.grownBy w' (some rb)
/-- The replacer's world: where it lies, and what it puts. -/
structure RpW (M rb ybk yof : Nat) (x : List UInt8) (y : By) (YB : Nat) (W : World) (room : Int) : Prop where
  rp : RpAt W rb x ⟨ybk, yof, none⟩ YB room
  hM : M ≤ rb
  hMW : M ≤ W.heap.size
  y : ∃ u1 u2 u3 u4, ExL M W ybk yof y.k y.s y.n y.op u1 u2 u3 u4 y.ns y.a y.b y.c
  top : room ≤ 2147483647
theorem RpW.lt {M rb ybk yof : Nat} {x : List UInt8} {y : By} {YB : Nat} {W : World} {room : Int} (h : RpW M rb ybk yof x y YB W room) : rb < W.heap.size := (Array.getElem?_eq_some_iff.1 h.rp).1
theorem RpW.step {M rb ybk yof : Nat} {x : List UInt8} {y : By} {YB : Nat} {W W' : World} {room room' : Int} (h : RpW M rb ybk yof x y YB W room) (t : W.grownBy W' (some rb)) (hr : RpAt W' rb x ⟨ybk, yof, none⟩ YB room') (hle : room' ≤ room) : RpW M rb ybk yof x y YB W' room' :=
  ⟨hr, h.hM, Nat.le_trans h.hMW t.size, let ⟨u1, u2, u3, u4, hy⟩ := h.y; ⟨u1, u2, u3, u4, hy.grow t (fun q e => by have := Option.some.inj e; have := h.hM; omega) h.hMW⟩, Int.le_trans hle h.top⟩
/-- .. where the replacer's block stays. -/
theorem RpW.still {M rb ybk yof : Nat} {x : List UInt8} {y : By} {YB : Nat} {W W' : World} {room : Int} {row : Option Nat} (h : RpW M rb ybk yof x y YB W room) (t : W.grownBy W' row) (hr : ∀ q, row = some q → rb < q) : RpW M rb ybk yof x y YB W' room :=
  ⟨(t.block rb h.lt (fun e => by have := hr rb e.symm; omega)).trans h.rp, h.hM, Nat.le_trans h.hMW t.size, let ⟨u1, u2, u3, u4, hy⟩ := h.y; ⟨u1, u2, u3, u4, hy.grow t (fun q e => by have := hr q e; have := h.hM; omega) h.hMW⟩, h.top⟩
/-- What copying does to expressions with fewer parts than n. -/
def CopyC (M rb ybk yof : Nat) (x : List UInt8) (y : By) (YB : Nat) (op : Bool) (n : Nat) : Prop := ∀ (bk of : Nat) (k : Int) (s : List UInt8) (nn op' : Int) (vn va vb vc : Value) (ns : List (List UInt8)) (a b c : Fx) (W : World) (room : Int),
  (parts a b c).count < n → ExR rb M W bk of k s nn op' vn va vb vc ns a b c → RpW M rb ybk yof x y YB W room → costE ns a b c ≤ 1048576 → (parts a b c).count ≤ 131072 → (need YB op (parts a b c).count : Int) ≤ room →
  Calls Tryz.prog 20 #[.pointer (some ⟨rb, 0, none⟩), .pointer (some ⟨bk, of, none⟩), .bool op] W (CopyPost M rb ybk yof x YB op (parts a b c).count (repE x y op k s nn op' ns a b c) W room)
theorem grow_two {W W' : World} {rb : Nat} {row : Option Nat} (h : W.grownBy W' row) (hr : ∀ q, row = some q → q = rb ∨ W.heap.size ≤ q) : W.grownBy W' (some rb) :=
  ⟨h.os, h.tape, h.output, h.size, fun i hi hn => h.block i hi (fun e => by rcases hr i e.symm with rfl | hq; exact hn rfl; omega)⟩
theorem nsv_row {ok' : Nat → Prop} {w : World} {base : Nat} {E : TypeId} {v : Value} {ns : List (List UInt8)} (h : w.ownsRow base E 1 v ns.length (ns.map fun s => Value.string (bt s))) (hok : ∀ b, base ≤ b → b < w.heap.size → ok' b) : NsV ok' w v ns := by
  have e : (ns.map fun s => Value.string (bt s)) = ns.map encStr := rfl
  rw [e] at h
  exact ns_of_row_new h hok
/-- A list of names as cells. -/
theorem nsv_cells {ok : Nat → Prop} {w : World} {v : Value} {ns : List (List UInt8)} (h : NsV ok w v ns) : ∃ ad c, v = .slice ad ns.length c ∧ (ns.length ≠ 0 → ∃ b o, ad = some ⟨b, o, none⟩ ∧ ∀ j u, (ns.map fun s => Value.string (bt s))[j]? = some u → w.cell? ⟨b, o + j, none⟩ = some u) := by
  rcases h with ⟨rfl, a, c, rfl⟩ | ⟨hn, b, o, c, rfl, _, _, _, ha⟩
  · exact ⟨a, c, rfl, fun h => absurd rfl h⟩
  · refine ⟨_, c, rfl, fun _ => ⟨b, o, rfl, fun j u hj => ?_⟩⟩
    have hlt : j < ns.length := by have := (List.getElem?_eq_some_iff.1 hj).1; simpa using this
    have := ha j hlt
    rw [List.getElem?_map, List.getElem?_eq_getElem hlt] at hj
    simp only [Option.map_some, Option.some.injEq] at hj
    rw [← hj]
    exact this
/-- A row as cells. -/
theorem fxv_cells {ok : Nat → Prop} {w : World} {m : Nat} {v : Value} {f : Fx} (h : FxV ok w m v f) : ∃ ad c cs, v = .slice ad f.len c ∧ RwRow ok w m f cs ∧ (f.len ≠ 0 → ∃ b o, ad = some ⟨b, o, none⟩ ∧ ok b ∧ f.len ≤ c ∧ c ≤ maxLen ∧ ∀ j u, cs[j]? = some u → w.cell? ⟨b, o + j, none⟩ = some u) := by
  rcases h with ⟨rfl, a, c, rfl⟩ | ⟨hn, b, o, c, rfl, hok, hl, hm, ha⟩
  · exact ⟨a, c, [], rfl, rfl, fun h => absurd rfl h⟩
  · obtain ⟨cs, h1, h2⟩ := fxAt_rw ha
    exact ⟨_, c, cs, rfl, h1, fun _ => ⟨b, o, rfl, hok, hl, hm, h2⟩⟩
end Go.Proofs.YtfcogjlojfcfkaaGreat
end

section
namespace Go.Proofs.YtfcogjlojfcfkaaGreat
open Go.RowKit Ex0
attribute [local go_sem] bt_size bt_list bt_toList

/-- All blocks but some are as they were. -/
structure Off (Q : Nat → Prop) (w w' : World) : Prop where
  os : w'.os = w.os
  tape : w'.tape = w.tape
  output : w'.output = w.output
  size : w.heap.size ≤ w'.heap.size
  block : ∀ k, k < w.heap.size → ¬ Q k → w'.heap[k]? = w.heap[k]?
theorem Off.refl (Q : Nat → Prop) (w : World) : Off Q w w := ⟨rfl, rfl, rfl, Nat.le_refl _, fun _ _ _ => rfl⟩
theorem Off.trans {Q : Nat → Prop} {a b c : World} (h : Off Q a b) (k : Off Q b c) : Off Q a c :=
  ⟨k.os.trans h.os, k.tape.trans h.tape, k.output.trans h.output, Nat.le_trans h.size k.size, fun i hi hq => (k.block i (Nat.lt_of_lt_of_le hi h.size) hq).trans (h.block i hi hq)⟩
theorem Off.grown {Q : Nat → Prop} {a b c : World} {row : Option Nat} (h : Off Q a b) (k : b.grownBy c row) (hr : ∀ q, row = some q → Q q ∨ b.heap.size ≤ q) : Off Q a c :=
  h.trans ⟨k.os, k.tape, k.output, k.size, fun i hi hq => k.block i hi (fun e => by rcases hr i e.symm with h1 | h1; exact hq h1; omega)⟩
theorem Off.below {Q : Nat → Prop} {a b c : World} {B : Nat} (h : Off Q a b) (k : Below B b c) (hB : b.heap.size ≤ B) : Off Q a c :=
  h.trans ⟨k.os, k.tape, k.output, k.size, fun i hi _ => k.block i (Nat.lt_of_lt_of_le hi hB)⟩
theorem Off.set {Q : Nat → Prop} {a b : World} (h : Off Q a b) {g : Nat} (o : Nat) (v : Value) (hg : Q g) : Off Q a (b.setCell ⟨g, o, none⟩ v) :=
  h.grown (mz_set b g o v) (fun q e => by cases e; exact .inl hg)
theorem Off.cell {Q : Nat → Prop} {a b : World} (h : Off Q a b) {g : Nat} (hg : g < a.heap.size) (hq : ¬ Q g) (o : Nat) : b.cell? ⟨g, o, none⟩ = a.cell? ⟨g, o, none⟩ :=
  World.cell?_of_block (w := a) (w' := b) (a := ⟨g, o, none⟩) (h.block g hg hq)
theorem Off.keep {Q : Nat → Prop} {a b : World} (h : Off Q a b) {ok ok' : Nat → Prop} (hok : ∀ g, ok g → ok' g ∧ g < a.heap.size ∧ ¬ Q g) : Keep ok ok' a b :=
  fun g hg => ⟨(hok g hg).1, fun o => h.cell (hok g hg).2.1 (hok g hg).2.2 o⟩
/-- An alternative by itself. -/
def altV (k1 : Int) (s1 : List UInt8) (n1 : Int) (v1 : Value) (k : Int) (s : List UInt8) (n op : Int) (vn va vb vc : Value) : Value := .agg #[.int .i64 k1, .string (bt s1), .int .i64 n1, v1, .int .i64 k, .string (bt s), .int .i64 n, .int .i64 op, vn, va, vb, vc]
/-- What comes of the copy of an alternative. -/
def AltPost (M rb ybk yof : Nat) (x : List UInt8) (YB : Nat) (op : Bool) (cnt : Nat) (k1 : Int) (s1 : List UInt8) (n1 : Int) (ns1 : List (List UInt8)) (z : By) (W : World) (room : Int) (e : Ending) (w' : World) : Prop :=
  ∃ v1 vn va vb vc, e = .returned (altV k1 s1 n1 v1 z.k z.s z.n z.op vn va vb vc) ∧ NsV (Amid M W.heap.size w'.heap.size) w' v1 ns1 ∧ ExV (Amid M W.heap.size w'.heap.size) w' vn va vb vc z.ns z.a z.b z.c ∧
    (∃ room', RpAt w' rb x ⟨ybk, yof, none⟩ YB room' ∧ room - need YB op cnt ≤ room' ∧ room' ≤ room) ∧ W.grownBy w' (some rb)

/-- What is written at a copy's end. -/
theorem alt_end {Q : Nat → Prop} {w : World} {g : Nat} {T : TypeId} {d0 d1 d2 d3 d4 d5 d6 d7 d8 d9 d10 d11 : Value} (v0 v1 v2 v3 v4 v5 v6 v7 u0 u1 u2 u3 u4 u5 u6 u7 u8 u9 u10 u11 : Value) (hq1 : Q g) (hq2 : Q (g + 1)) (h : w.heap[g + 1]? = some (.cells #[d0, d1, d2, d3, d4, d5, d6, d7, d8, d9, d10, d11] T (0, 0))) :
    ∃ wE, wE = ((((((((((((((((((((w.setCell ⟨g, 4, none⟩ v0).setCell ⟨g, 5, none⟩ v1).setCell ⟨g, 6, none⟩ v2).setCell ⟨g, 7, none⟩ v3).setCell ⟨g, 8, none⟩ v4).setCell ⟨g, 9, none⟩ v5).setCell ⟨g, 10, none⟩ v6).setCell ⟨g, 11, none⟩ v7).setCell ⟨(g + 1), 0, none⟩ u0).setCell ⟨(g + 1), 1, none⟩ u1).setCell ⟨(g + 1), 2, none⟩ u2).setCell ⟨(g + 1), 3, none⟩ u3).setCell ⟨(g + 1), 4, none⟩ u4).setCell ⟨(g + 1), 5, none⟩ u5).setCell ⟨(g + 1), 6, none⟩ u6).setCell ⟨(g + 1), 7, none⟩ u7).setCell ⟨(g + 1), 8, none⟩ u8).setCell ⟨(g + 1), 9, none⟩ u9).setCell ⟨(g + 1), 10, none⟩ u10).setCell ⟨(g + 1), 11, none⟩ u11) ∧ Off Q w wE ∧ (∀ b, b ≠ g → b ≠ g + 1 → b < w.heap.size → wE.heap[b]? = w.heap[b]?) ∧ wE.heap[g + 1]? = some (.cells #[u0, u1, u2, u3, u4, u5, u6, u7, u8, u9, u10, u11] T (0, 0)) := by
  have q1 : (fun b => b = g) g := rfl
  have q2 : (fun b => b = g ∨ b = g + 1) g := .inl rfl
  have q3 : (fun b => b = g ∨ b = g + 1) (g + 1) := .inr rfl
  have h8 := (Off.set (Off.set (Off.set (Off.set (Off.set (Off.set (Off.set (Off.set (Off.refl (fun b => b = g) w) 4 v0 q1) 5 v1 q1) 6 v2 q1) 7 v3 q1) 8 v4 q1) 9 v5 q1) 10 v6 q1) 11 v7 q1)
  have hE := (Off.set (Off.set (Off.set (Off.set (Off.set (Off.set (Off.set (Off.set (Off.set (Off.set (Off.set (Off.set (Off.set (Off.set (Off.set (Off.set (Off.set (Off.set (Off.set (Off.set (Off.refl (fun b => b = g ∨ b = g + 1) w) 4 v0 q2) 5 v1 q2) 6 v2 q2) 7 v3 q2) 8 v4 q2) 9 v5 q2) 10 v6 q2) 11 v7 q2) 0 u0 q3) 1 u1 q3) 2 u2 q3) 3 u3 q3) 4 u4 q3) 5 u5 q3) 6 u6 q3) 7 u7 q3) 8 u8 q3) 9 u9 q3) 10 u10 q3) 11 u11 q3)
  refine ⟨_, rfl, (Off.set (Off.set (Off.set (Off.set (Off.set (Off.set (Off.set (Off.set (Off.set (Off.set (Off.set (Off.set (Off.set (Off.set (Off.set (Off.set (Off.set (Off.set (Off.set (Off.set (Off.refl Q w) 4 v0 hq1) 5 v1 hq1) 6 v2 hq1) 7 v3 hq1) 8 v4 hq1) 9 v5 hq1) 10 v6 hq1) 11 v7 hq1) 0 u0 hq2) 1 u1 hq2) 2 u2 hq2) 3 u3 hq2) 4 u4 hq2) 5 u5 hq2) 6 u6 hq2) 7 u7 hq2) 8 u8 hq2) 9 u9 hq2) 10 u10 hq2) 11 u11 hq2), fun b n1 n2 hb => hE.block b hb (fun h => h.elim n1 n2), ?_⟩
  have hlt : g + 1 < w.heap.size := (Array.getElem?_eq_some_iff.1 h).1
  have h1 := (h8.block (g + 1) hlt (by simp)).trans h
  rw [(heap_set (heap_set (heap_set (heap_set (heap_set (heap_set (heap_set (heap_set (heap_set (heap_set (heap_set (heap_set h1 u0) u1) u2) u3) u4) u5) u6) u7) u8) u9) u10) u11)]
  simp only [List.setIfInBounds_toArray, List.set_cons_succ, List.set_cons_zero]

noncomputable def altFs : Array Field := (Tryz.prog.underlying 40).elim #[] fun | .struct fs => fs | _ => #[]
theorem under_alt : Tryz.prog.underlying 40 = some (.struct altFs) := by kernel_rfl
theorem size_alt : (Tryz.prog.info? 40).map (·.size) = some 12 := by kernel_rfl

set_option maxHeartbeats 4000000 in
set_option maxRecDepth 100000 in
theorem alt_any (M rb ybk yof : Nat) (x : List UInt8) (y : By) (YB n : Nat) (op : Bool) (hC : ∀ o, (o = true → op = true) → CopyC M rb ybk yof x y YB o n)
    (k1 : Int) (s1 : List UInt8) (n1 : Int) (v1 : Value) (ns1 : List (List UInt8)) (k : Int) (s : List UInt8) (nn op' : Int) (vn va vb vc : Value) (ns : List (List UInt8)) (a b c : Fx) (W : World) (room : Int)
    (hn : (parts a b c).count < n) (h1 : NsV (Old M) W v1 ns1) (hx : ExV (Old M) W vn va vb vc ns a b c) (hR : RpW M rb ybk yof x y YB W room) (hns1 : ns1.length ≤ 1048576) (hce : costE ns a b c ≤ 1048576) (hcn : (parts a b c).count ≤ 131072) (hrm : (need YB op (parts a b c).count : Int) ≤ room) :
    Calls Tryz.prog 42 #[.pointer (some ⟨rb, 0, none⟩), altV k1 s1 n1 v1 k s nn op' vn va vb vc, .bool op] W (AltPost M rb ybk yof x YB op (parts a b c).count k1 s1 n1 ns1 (repE x y (op && !decide (x ∈ ns1)) k s nn op' ns a b c) W room) := by
  obtain ⟨a1, c1, rfl⟩ := h1.slice
  obtain ⟨an, cn, rfl⟩ := hx.ns.slice
  obtain ⟨aa, ca, rfl⟩ := hx.a.slice
  obtain ⟨ab, cb, rfl⟩ := hx.b.slice
  obtain ⟨ac, cc, rfl⟩ := hx.c.slice
  have HR := Lib.hid hR
  have H1 := Lib.hid h1
  have HX := Lib.hid hx
  have hMW := hR.hMW
  have hrbW := hR.lt
  have r0 := cell_of hR.rp 0 _ rfl
  have z0 := cell_al hrbW r0
  clear hR h1 hx
  have HN := Lib.hid (show ∀ w' : World, Below W.heap.size W w' → NsV (Old M) w' (.slice a1 ns1.length c1) ns1 from fun w' hb => H1.out.keep (keep_below (hb.mono hMW) fun _ h => h))
  clear r0 z0
  unfold altV
  go_enter Tryz.func42, Tryz.ntmps42
  go_upto_region 1 with fail
  generalize hW1 : World.alloc (World.alloc W _) _ = W1
  have hb1 : Below W.heap.size W W1 := by rw [← hW1]; exact (below_alloc' W _).alloc (by simp) _
  have hs1 : W1.heap.size = W.heap.size + 2 := by rw [← hW1]; simp
  have h4 : W1.heap[W.heap.size]? = some (.cells #[.int .i64 k1, .string (bt s1), .int .i64 n1, .slice a1 ns1.length c1, .int .i64 k, .string (bt s), .int .i64 nn, .int .i64 op', .slice an ns.length cn, .slice aa a.len ca, .slice ab b.len cb, .slice ac c.len cc] 40 (0, 0)) := by
    rw [← hW1]; exact (Below.heap_alloc _ _ _ (by simp)).trans (World.alloc_heap_new W _)
  have h6 : W1.heap[W.heap.size + 1]? = some (.cells #[.int .i64 0, .string ⟨#[]⟩, .int .i64 0, .slice none 0 0, .int .i64 0, .string ⟨#[]⟩, .int .i64 0, .int .i64 0, .slice none 0 0, .slice none 0 0, .slice none 0 0, .slice none 0 0] 40 (0, 0)) := by
    rw [← hW1]
    have := World.alloc_heap_new (W.alloc (Obj.cells #[.int .i64 k1, .string (bt s1), .int .i64 n1, .slice a1 ns1.length c1, .int .i64 k, .string (bt s), .int .i64 nn, .int .i64 op', .slice an ns.length cn, .slice aa a.len ca, .slice ab b.len cb, .slice ac c.len cc] 40)) (Obj.cells #[.int .i64 0, .string ⟨#[]⟩, .int .i64 0, .slice none 0 0, .int .i64 0, .string ⟨#[]⟩, .int .i64 0, .int .i64 0, .slice none 0 0, .slice none 0 0, .slice none 0 0, .slice none 0 0] 40)
    simpa using this
  clear hW1
  have r1 := (show RpAt W1 rb x ⟨ybk, yof, none⟩ YB room from (hb1.block rb hrbW).trans HR.out.rp)
  have e0 := cell_of r1 0 _ rfl
  have e3 := cell_of h4 3 _ rfl
  have HB1 := Lib.hid hb1
  have HR1 := Lib.hid r1
  have H4 := Lib.hid h4
  have H6 := Lib.hid h6
  have HS1 := Lib.hid hs1
  clear hb1 r1 h4 h6
  have HN1 := Lib.hid (HN.out W1.drew (below_same HB1.out rfl rfl rfl rfl))
  go_cut [2] (fun s2 wx => s2 = .bool (op && !decide (x ∈ ns1)) ∧ Below W1.heap.size W1 wx)
  case first =>
    cases op with
    | false =>
      go_quiet (fail)
      go_wp2_with fail
      go_meet
      exact ⟨rfl, below_same (Below.refl _ _) rfl rfl rfl rfl⟩
    | true =>
      go_region_held3 (fun w' => w'.cell? ⟨rb, 0, none⟩ = some (.string (bt x)) ∧ w'.cell? ⟨W.heap.size, 3, none⟩ = some (.slice a1 ns1.length c1)) (first | exact ⟨e0, e3⟩ | (go_keep; done))
        (first | (go_at_call 35; refine (contains_any _ ns1 x _ M hns1 HN1.out).mono ?_; rintro e w5 ⟨rfl, rfl⟩))
      go_wp2_with fail
      go_meet
      exact ⟨by simp, below_same (Below.refl _ _) rfl rfl rfl rfl⟩
  case rest =>
    obtain ⟨rfl, hbc⟩ := hcut
    obtain ⟨o2, ho2⟩ : ∃ o2, (op && !decide (x ∈ ns1)) = o2 := ⟨_, rfl⟩
    have HO2 := Lib.hid ho2
    rw [ho2]
    have hon : o2 = true → op = true := fun h => by rw [← ho2] at h; simp only [Bool.and_eq_true] at h; exact h.1
    have HO := Lib.hid hon
    have hsc : W.heap.size + 2 ≤ wc.heap.size := by have := hbc.size; omega
    have g4 := (hbc.block _ (by omega)).trans H4.out
    have g6 := (hbc.block _ (by omega)).trans H6.out
    have rc := (show RpAt wc rb x ⟨ybk, yof, none⟩ YB room from (hbc.block rb (by omega)).trans HR1.out)
    have HBc := Lib.hid (HB1.out.trans (hbc.mono (by omega)))
    have e3c := cell_of g4 3 _ rfl
    have r0c := cell_of rc 0 _ rfl
    have hal4 : W.heap.size < wc.heap.size := by omega
    obtain ⟨ad, c1', hsl, hcl⟩ := nsv_cells (HN.out wc HBc.out)
    cases hsl
    have HCl := Lib.hid hcl
    have G4 := Lib.hid g4
    have G6 := Lib.hid g6
    have RC := Lib.hid rc
    clear e0 e3 ho2 hon hbc g4 g6 rc hcl
    go_wp2_with (first | (go_at_call 38; refine (clone_str a1 ns1.length c1 (ns1.map fun s => Value.string (bt s)) wc (by simp) hns1 HCl.out (by intro u hu; obtain ⟨t, _, rfl⟩ := List.mem_map.1 hu; rfl)).mono ?_; rintro e w5 ⟨v5, rfl, hown5, hb5⟩; obtain ⟨a5, c5, hv5⟩ := (nsv_row (ok' := New wc w5) hown5 (fun b h1 h2 => ⟨h1, h2⟩)).slice; subst hv5; have HV5 := Lib.hid (nsv_row (ok' := New wc w5) hown5 (fun b h1 h2 => ⟨h1, h2⟩)); have G5 := Lib.hid ((hb5.block W.heap.size hal4).trans G4.out); have k5 := cell_of G5.out 3 _ rfl; have f5 := frozen_of G5.out 3; have hs5 := hb5.size; have HB5 := Lib.hid hb5; clear hown5 hb5))
    generalize hw6 : World.setCell w5 _ _ = w6
    have hset := mz_set w5 W.heap.size 3 (.slice a5 ns1.length c5)
    rw [hw6] at hset
    have g46 : w6.heap[W.heap.size]? = some (.cells #[.int .i64 k1, .string (bt s1), .int .i64 n1, .slice a5 ns1.length c5, .int .i64 k, .string (bt s), .int .i64 nn, .int .i64 op', .slice an ns.length cn, .slice aa a.len ca, .slice ab b.len cb, .slice ac c.len cc] 40 (0, 0)) := by
      rw [← hw6]; exact (heap_set G5.out _).trans rfl
    clear hw6 k5 f5
    have hs6 := hset.size
    have g66 := (hset.block (W.heap.size + 1) (by omega) (by simp)).trans ((HB5.out.block _ (by omega)).trans G6.out)
    obtain ⟨Q, hQ⟩ : ∃ Q : Nat → Prop, Q = fun b => b = rb ∨ b = W.heap.size ∨ b = W.heap.size + 1 := ⟨_, rfl⟩
    have hQ1 : Q rb := by rw [hQ]; exact .inl rfl
    have hQ2 : Q W.heap.size := by rw [hQ]; exact .inr (.inl rfl)
    have hQ3 : Q (W.heap.size + 1) := by rw [hQ]; exact .inr (.inr rfl)
    have hQn : ∀ b, Q b → b = rb ∨ b = W.heap.size ∨ b = W.heap.size + 1 := fun b h => by rw [hQ] at h; exact h
    clear hQ
    have hf5 : Off Q W w5 := ((Off.refl Q W).below HBc.out (Nat.le_refl _)).below HB5.out (Nat.le_refl _)
    have hf6 : Off Q w5 w6 := (Off.refl Q w5).grown hset (fun q e => by cases e; exact .inl hQ2)
    have hR6 : RpW M rb ybk yof x y YB w6 room := by
      have t1 : W.grownBy wc none := ⟨HBc.out.os, HBc.out.tape, HBc.out.output, HBc.out.size, fun i hi _ => HBc.out.block i hi⟩
      have t2 : wc.grownBy w5 none := ⟨HB5.out.os, HB5.out.tape, HB5.out.output, HB5.out.size, fun i hi _ => HB5.out.block i hi⟩
      exact ((HR.out.still t1 (fun q e => by cases e)).still t2 (fun q e => by cases e)).still hset (fun q e => by cases e; exact hrbW)
    have hE6 : ExR rb M w6 W.heap.size 4 k s nn op' (.slice an ns.length cn) (.slice aa a.len ca) (.slice ab b.len cb) (.slice ac c.len cc) ns a b c :=
      ⟨by omega, by omega, cell_of g46 4 _ rfl, cell_of g46 5 _ rfl, cell_of g46 6 _ rfl, cell_of g46 7 _ rfl, cell_of g46 8 _ rfl, cell_of g46 9 _ rfl, cell_of g46 10 _ rfl, cell_of g46 11 _ rfl,
        HX.out.keep ((hf5.trans hf6).keep fun g hg => ⟨hg, Nat.lt_of_lt_of_le hg hMW, fun hq => by have := HR.out.hM; have : g < M := hg; rcases hQn g hq with h | h | h <;> omega⟩)⟩
    refine (hC o2 HO.out _ _ k s nn op' _ _ _ _ ns a b c w6 room hn hE6 hR6 hce hcn (Int.le_trans (by have := need_le (YB := YB) HO.out (Nat.le_refl (parts a b c).count); omega) hrm)).mono ?_
    rintro e w7 ⟨vn7, va7, vb7, vc7, rfl, hex7, ⟨room7, hrp7, hle7, hge7⟩, hg7⟩
    obtain ⟨an7, cn7, rfl⟩ := hex7.ns.slice
    obtain ⟨aa7, ca7, rfl⟩ := hex7.a.slice
    obtain ⟨ab7, cb7, rfl⟩ := hex7.b.slice
    obtain ⟨ac7, cc7, rfl⟩ := hex7.c.slice
    obtain ⟨z, hz⟩ : ∃ z, repE x y o2 k s nn op' ns a b c = z := ⟨_, rfl⟩
    rw [hz] at hex7 ⊢
    have HZ := Lib.hid hz
    clear hz
    have g47 := (hg7.block W.heap.size (by omega) (by simp; omega)).trans g46
    have g67 := (hg7.block (W.heap.size + 1) (by omega) (by simp; omega)).trans g66
    have H47 := Lib.hid g47
    have H67 := Lib.hid g67
    have HF7 := Lib.hid ((Off.refl Q w6).grown hg7 (fun q e => by cases e; exact .inl hQ1))
    have HG := Lib.hid (show Off Q W w6 from hf5.trans hf6)
    have HV6 := Lib.hid (And.intro hf6 (And.intro hex7 (And.intro hrp7 (And.intro hle7 hge7))))
    have hs7 := hg7.size
    have HG7 := Lib.hid hg7
    have HS6 := Lib.hid hset
    have HQ := Lib.hid (And.intro hQ1 (And.intro hQ2 (And.intro hQ3 hQn)))
    have f47 := fun o => frozen_of g47 o
    have f67 := fun o => frozen_of g67 o
    have k4_0 := cell_of g47 0 _ rfl
    have k4_1 := cell_of g47 1 _ rfl
    have k4_2 := cell_of g47 2 _ rfl
    have k4_3 := cell_of g47 3 _ rfl
    have k4_4 := cell_of g47 4 _ rfl
    have k4_5 := cell_of g47 5 _ rfl
    have k4_6 := cell_of g47 6 _ rfl
    have k4_7 := cell_of g47 7 _ rfl
    have k4_8 := cell_of g47 8 _ rfl
    have k4_9 := cell_of g47 9 _ rfl
    have k4_10 := cell_of g47 10 _ rfl
    have k4_11 := cell_of g47 11 _ rfl
    have k6_0 := cell_of g67 0 _ rfl
    have k6_1 := cell_of g67 1 _ rfl
    have k6_2 := cell_of g67 2 _ rfl
    have k6_3 := cell_of g67 3 _ rfl
    have k6_4 := cell_of g67 4 _ rfl
    have k6_5 := cell_of g67 5 _ rfl
    have k6_6 := cell_of g67 6 _ rfl
    have k6_7 := cell_of g67 7 _ rfl
    have k6_8 := cell_of g67 8 _ rfl
    have k6_9 := cell_of g67 9 _ rfl
    have k6_10 := cell_of g67 10 _ rfl
    have k6_11 := cell_of g67 11 _ rfl
    clear g46 g66 g47 g67 hf5 hf6 hR6 hE6 hex7 hrp7 hle7 hge7 hg7 hset hQ1 hQ2 hQ3 hQn
    unfold exV
    go_wp2_with fail
    clear f47 f67
    obtain ⟨wE, hwE, hE7, hbE, h6E⟩ := alt_end (Q := Q) (.int .i64 z.k) (.string (bt z.s)) (.int .i64 z.n) (.int .i64 z.op) (.slice an7 z.ns.length cn7) (.slice aa7 z.a.len ca7) (.slice ab7 z.b.len cb7) (.slice ac7 z.c.len cc7) (.int .i64 k1) (.string (bt s1)) (.int .i64 n1) (.slice a5 ns1.length c5) (.int .i64 z.k) (.string (bt z.s)) (.int .i64 z.n) (.int .i64 z.op) (.slice an7 z.ns.length cn7) (.slice aa7 z.a.len ca7) (.slice ab7 z.b.len cb7) (.slice ac7 z.c.len cc7) HQ.out.2.1 HQ.out.2.2.1 H67.out
    rw [← hwE]
    clear hwE
    refine bodyPost_ret (results_cell_row rfl _ _ (W.heap.size + 1) 40 #[.int .i64 k1, .string (bt s1), .int .i64 n1, .slice a5 ns1.length c5, .int .i64 z.k, .string (bt z.s), .int .i64 z.n, .int .i64 z.op, .slice an7 z.ns.length cn7, .slice aa7 z.a.len ca7, .slice ab7 z.b.len cb7, .slice ac7 z.c.len cc7] (0, 0) (.struct altFs) rfl h6E under_alt rfl size_alt) rfl ?_
    obtain ⟨hf6, hex7, hrp7, hle7, hge7⟩ := HV6.out
    obtain ⟨hQ1, hQ2, hQ3, hQn⟩ := HQ.out
    rw [HO2.out, HZ.out]
    have hsE := hE7.size
    have hE6 : Off Q w6 wE := HF7.out.trans hE7
    have hE : Off Q W wE := HG.out.trans hE6
    have hK5 : Keep (New wc w5) (Amid M W.heap.size wE.heap.size) w5 wE := (hf6.trans hE6).keep fun g hg => by
      have h1 : wc.heap.size ≤ g := hg.1
      have h2 : g < w5.heap.size := hg.2
      have h3 := hE6.size
      refine ⟨.inr ⟨?_, ?_⟩, h2, fun hq => ?_⟩
      · omega
      · omega
      · rcases hQn g hq with h | h | h <;> omega
    have hK7 : Keep (Amid M w6.heap.size w7.heap.size) (Amid M W.heap.size wE.heap.size) w7 wE := hE7.keep fun g hg => by
      have hM := HR.out.hM
      refine ⟨?_, ?_, fun hq => ?_⟩
      · rcases hg with hg | hg
        · exact .inl hg
        · exact .inr ⟨by omega, by omega⟩
      · rcases hg with hg | hg
        · omega
        · exact hg.2
      · rcases hQn g hq with h | h | h <;> rcases hg with hg | hg <;> omega
    refine ⟨_, _, _, _, _, rfl, HV5.out.keep hK5, hex7.keep hK7, ⟨room7, ?_, ?_, hge7⟩, ?_⟩
    · exact (hbE rb (by omega) (by omega) (by omega)).trans hrp7
    · have := need_le (YB := YB) HO.out (Nat.le_refl (parts a b c).count)
      omega
    · exact ⟨hE.os, hE.tape, hE.output, hE.size, fun i hi hn => hE.block i hi (fun hq => by
        rcases hQn i hq with h | h | h
        · subst h; exact hn rfl
        · omega
        · omega)⟩
end Go.Proofs.YtfcogjlojfcfkaaGreat
end
