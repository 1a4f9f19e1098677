/- The contract of the counter's add. No condition but a bound on the sum. -/
import Derived.Test.YtfcogjlojfcfkaaGreatMB
import Derived.Test.YtfcogjlojfcfkaaGreatMA
import Derived.Laws.Rows
import Derived.Deep.QuietTactic
import Derived.StillTail
import Derived.StillTactics
import Derived.WalkKit
section
namespace Go.Proofs.YtfcogjlojfcfkaaGreat
open Go.RowKit Ex0

/-- In a block lies how often, and whether within a Lam. -/
def AllAt (w : World) (ab : Nat) (t : Int) (i : Bool) : Prop := w.heap[ab]? = some (.cells #[.int .i64 t, .bool i] 49 (0, 0))
theorem all_cell {w : World} {ab : Nat} {t : Int} {i : Bool} (h : AllAt w ab t i) : w.cell? ⟨ab, 0, none⟩ = some (.int .i64 t) ∧ w.cell? ⟨ab, 1, none⟩ = some (.bool i) ∧ w.frozen? ⟨ab, 0, none⟩ = false ∧ w.frozen? ⟨ab, 1, none⟩ = false := by
  unfold AllAt at h
  exact ⟨by simp [World.cell?, h], by simp [World.cell?, h], by simp [World.frozen?, h], by simp [World.frozen?, h]⟩
theorem heap_set {w : World} {b o : Nat} {cs : Array Value} {T : TypeId} {fr : Nat × Nat} (h : w.heap[b]? = some (.cells cs T fr)) (v : Value) : (w.setCell ⟨b, o, none⟩ v).heap[b]? = some (.cells (cs.setIfInBounds o v) T fr) := by
  obtain ⟨hlt, he⟩ := Array.getElem?_eq_some_iff.1 h
  show (w.heap.modify b _)[b]? = _
  rw [Array.getElem?_eq_getElem (by rw [Array.size_modify]; exact hlt), Array.getElem_modify_self, he]
  rfl
theorem all_set0 {w : World} {ab : Nat} {t : Int} {i : Bool} (h : AllAt w ab t i) (t' : Int) : AllAt (w.setCell ⟨ab, 0, none⟩ (.int .i64 t')) ab t' i := (heap_set h _).trans rfl
theorem all_set1 {w : World} {ab : Nat} {t : Int} {i : Bool} (h : AllAt w ab t i) (i' : Bool) : AllAt (w.setCell ⟨ab, 1, none⟩ (.bool i')) ab t i' := (heap_set h _).trans rfl
theorem all_alloc {w : World} {ab : Nat} {t : Int} {i : Bool} (h : AllAt w ab t i) (o : Obj) : AllAt (w.alloc o) ab t i := (Below.heap_alloc w o ab (Array.getElem?_eq_some_iff.1 h).1).trans h
theorem all_new (w : World) : AllAt (w.alloc (.cells #[.int .i64 0, .bool false] 49)) w.heap.size 0 false := World.alloc_heap_new w _

set_option maxHeartbeats 1000000 in
theorem add_any (ab : Nat) (t t2 : Int) (i i2 : Bool) (w : World) (h : AllAt w ab t i) (ht : 0 ≤ t ∧ t ≤ 1048576) (ht2 : 0 ≤ t2 ∧ t2 ≤ 1048576) :
    Calls Tryz.prog 27 #[.pointer (some ⟨ab, 0, none⟩), .agg #[.int .i64 t2, .bool i2]] w fun e w' => (∃ v, e = .returned v) ∧ AllAt w' ab (t + t2) (i || i2) ∧ Ct ab w w' := by
  have hlt := (Array.getElem?_eq_some_iff.1 h).1
  have h1 : AllAt (w.alloc (.cells #[.int .i64 t2, .bool i2] 49)) ab t i := all_alloc h _
  have h2 := all_set0 h1 (t + t2)
  have h3 := all_set1 h2 (i || i2)
  obtain ⟨c0, c1, f0, f1⟩ := all_cell h1
  obtain ⟨d0, d1, g0, g1⟩ := all_cell h2
  have HC := Lib.hid (((Ct.alloc ab w (.cells #[.int .i64 t2, .bool i2] 49)).set (b := ab) (o := 0) (.inl rfl) (.int .i64 (t + t2))).set (b := ab) (o := 1) (.inl rfl) (.bool (i || i2)))
  have HA := Lib.hid h3
  have q1 : decide (t > 9223372036854775807 - t2) = false := decide_eq_false (by omega)
  have q2 : decide (9223372036854775807 - t2 < t) = false := decide_eq_false (by omega)
  obtain ⟨ht0, ht1⟩ := ht
  obtain ⟨hu0, hu1⟩ := ht2
  clear h h1 h2 h3
  cases i
  all_goals
   simp only [Bool.true_or, Bool.false_or] at HA HC
   go_enter Tryz.func27, Tryz.ntmps27
   go_wp2_with fail
   go_quiet (fail)
   go_wp2_with fail
   go_region
   all_goals go_wp2_with fail
   all_goals go_end0
   all_goals exact ⟨⟨_, rfl⟩, HA.out, HC.out.same rfl rfl rfl rfl⟩
end Go.Proofs.YtfcogjlojfcfkaaGreat
end

section
namespace Go.Proofs.YtfcogjlojfcfkaaGreat
open Go.RowKit Ex0

/-- In a block lies an expression without parts, neither a Case. -/
structure LfAt (W : World) (b : Nat) (k : Int) (s : List UInt8) : Prop where
  lt : b < W.heap.size
  c0 : W.cell? ⟨b, 0, none⟩ = some (.int .i64 k)
  c1 : W.cell? ⟨b, 1, none⟩ = some (.string (bt s))
  c4 : ∃ a c, W.cell? ⟨b, 4, none⟩ = some (.slice a 0 c)
  c5 : ∃ a c, W.cell? ⟨b, 5, none⟩ = some (.slice a 0 c)
  c6 : ∃ a c, W.cell? ⟨b, 6, none⟩ = some (.slice a 0 c)
  c7 : ∃ a c, W.cell? ⟨b, 7, none⟩ = some (.slice a 0 c)
  k6 : (k == 6) = false
theorem LfAt.below {W W' : World} {b : Nat} {k : Int} {s : List UInt8} {B : Nat} (h : LfAt W b k s) (hb : Below B W W') (hB : b < B) : LfAt W' b k s := by
  have q := fun o => hb.cell (p := ⟨b, o, none⟩) hB
  obtain ⟨lt, c0, c1, ⟨a4, d4, c4⟩, ⟨a5, d5, c5⟩, ⟨a6, d6, c6⟩, ⟨a7, d7, c7⟩, k6⟩ := h
  exact ⟨Nat.lt_of_lt_of_le lt hb.size, (q _).trans c0, (q _).trans c1, ⟨a4, d4, (q _).trans c4⟩, ⟨a5, d5, (q _).trans c5⟩, ⟨a6, d6, (q _).trans c6⟩, ⟨a7, d7, (q _).trans c7⟩, k6⟩

noncomputable def extFs : Array Field := (Tryz.prog.underlying 57).elim #[] fun | .struct fs => fs | _ => #[]
theorem under_ext : Tryz.prog.underlying 57 = some (.struct extFs) := by kernel_rfl
theorem size_ext : (Tryz.prog.info? 57).map (·.size) = some 4 := by kernel_rfl
theorem hp_two (W : World) (a b : Obj) : ((W.alloc a).alloc b).drew.heap[W.heap.size]? = some a := show ((W.alloc a).alloc b).heap[W.heap.size]? = some a from (Below.heap_alloc _ _ _ (by simp)).trans (World.alloc_heap_new W _)

theorem children_lf (b : Nat) (k : Int) (s : List UInt8) (W : World) (h : LfAt W b k s) :
    Calls Tryz.prog 31 #[.pointer (some ⟨b, 0, none⟩)] W fun e w' => e = .returned (.int .i64 0) ∧ ∃ n, w' = W.drewN n := by
  obtain ⟨lt, c0, c1, ⟨a4, d4, c4⟩, ⟨a5, d5, c5⟩, ⟨a6, d6, c6⟩, ⟨a7, d7, c7⟩, k6⟩ := h
  go_enter Tryz.func31, Tryz.ntmps31
  go_wp2_with fail
  go_quiet (fail)
  go_wp2_with fail
  go_ret
  exact ⟨rfl, _, rfl⟩

set_option maxRecDepth 100000 in
theorem extent_lf (b : Nat) (k : Int) (s : List UInt8) (W : World) (h : LfAt W b k s) :
    Calls Tryz.prog 30 #[.pointer (some ⟨b, 0, none⟩)] W fun e w' => e = .returned (.agg #[.int .i64 1, .int .i64 1, .int .i64 136, .int .i64 0]) ∧ Below W.heap.size W w' := by
  have HL := Lib.hid h
  obtain ⟨lt, c0, c1, ⟨a4, d4, c4⟩, ⟨a5, d5, c5⟩, ⟨a6, d6, c6⟩, ⟨a7, d7, c7⟩, k6⟩ := h
  have hb1 : Below W.heap.size W (W.alloc (.cells #[.int .i64 0, .int .i64 0, .int .i64 0, .int .i64 0] 57)) := below_alloc' _ _
  have q := fun o => hb1.cell (p := ⟨b, o, none⟩) lt
  have p0 := (q 0).trans c0
  have p4 := (q 4).trans c4
  have p6 := (q 6).trans c6
  have p7 := (q 7).trans c7
  have hb2 := hb1.alloc (by simp) (.cells #[.int .i64 1, .int .i64 1, .int .i64 0, .int .i64 0] 57)
  have q2 := fun o => hb2.cell (p := ⟨b, o, none⟩) lt
  have r0 := (q2 0).trans c0
  have r6 := (q2 6).trans c6
  have r7 := (q2 7).trans c7
  clear q q2 hb1 hb2
  go_enter Tryz.func30, Tryz.ntmps30
  go_wp2_with fail
  go_loopw [3, 16] (fun n i wr => n = .int .i64 0 ∧ i = .int .i64 0 ∧ wr = W.alloc (.cells #[.int .i64 0, .int .i64 0, .int .i64 0, .int .i64 0] 57)) (fun _ _ _ => 0)
  case atStart => exact ⟨rfl, rfl, rfl⟩
  case round =>
    obtain ⟨rfl, rfl, rfl⟩ := hrel
    go_wp2_with fail
    go_region
    all_goals go_wp2_with fail
    all_goals refine bodyPost_ret (results_cell_row rfl _ _ W.heap.size 57 #[.int .i64 1, .int .i64 1, .int .i64 136, .int .i64 0] (0, 0) (.struct extFs) rfl (hp_two W _ _) under_ext rfl size_ext) rfl ?_
    all_goals exact ⟨rfl, below_same ((below_alloc' W _).alloc (by simp) _) rfl rfl rfl rfl⟩

/-- In a block lies a measurer that has steps left. -/
def MzAt (W : World) (mb kb : Nat) (p : Int) : Prop := W.heap[mb]? = some (.cells #[.int .i64 p, .map (some kb), .slice none 0 0] 78 (0, 0))
theorem mz_cell {W : World} {mb kb : Nat} {p : Int} (h : MzAt W mb kb p) : W.cell? ⟨mb, 0, none⟩ = some (.int .i64 p) ∧ mb < W.heap.size := by
  unfold MzAt at h
  exact ⟨by simp [World.cell?, h], (Array.getElem?_eq_some_iff.1 h).1⟩

theorem note_lf (mb kb : Nat) (p : Int) (ad : Option Addr) (v0 v1 v2 v3 : Value) (W : World) (h : MzAt W mb kb p) (hp : 0 < p) :
    Calls Tryz.prog 32 #[.pointer (some ⟨mb, 0, none⟩), .pointer ad, .agg #[v0, v1, v2, v3]] W fun e w' => (∃ v, e = .returned v) ∧ Below W.heap.size W w' := by
  obtain ⟨m0, ml⟩ := mz_cell h
  have z0 := cell_al ml m0
  have hp1 : decide (p > 0) = true := decide_eq_true hp
  have hp2 : decide (0 < p) = true := decide_eq_true hp
  clear h hp
  go_enter Tryz.func32, Tryz.ntmps32
  go_wp2_with fail
  refine bodyPost_ret (results_none rfl _ _ _) rfl ?_
  exact ⟨⟨_, rfl⟩, below_alloc' _ _⟩
end Go.Proofs.YtfcogjlojfcfkaaGreat
end

section
namespace Go.Proofs.YtfcogjlojfcfkaaGreat
open Go

section
variable {P : Program} {ops : Array Oper} {md : Region.Mode} {w : World}

/-- Each operation behind number n waits for one from n on. -/
def depB (md : Region.Mode) (ops : Array Oper) (n : Nat) : Bool :=
  (List.range ops.size).all fun t => decide (t ≤ n) || (List.range t).any fun i => decide (n ≤ i) && Region.waitsFor md ops t i
theorem dep_waits {n : Nat} {listed : Array Bool} (hs : Region.sinkB md ops n = true) (hd : depB md ops n = true) (inv : HeadInv md ops n listed) :
    ∀ (d i : Nat), n - i = d → i < n → listed.getD i true = false → ∀ t, n ≤ t → t ∉ Region.ready md ops listed := by
  intro d
  induction d using Nat.strongRecOn with
  | _ d ih =>
    intro i hd' hi hun t ht hr
    obtain ⟨_, ot, hot, hall⟩ := mem_ready.1 hr
    have htlt : t < ops.size := (Array.getElem?_eq_some_iff.1 hot).1
    by_cases htn : t = n
    · subst htn
      obtain ⟨j, hj, hj2⟩ := List.any_eq_true.1 (List.all_eq_true.1 hs i (List.mem_range.2 hi))
      simp only [Bool.and_eq_true, decide_eq_true_eq] at hj2
      obtain ⟨oj, hoj, e, he, hb, hon⟩ := Region.waitsFor_spec hj2.2
      have hjle : j ≤ t := by have := List.mem_range.1 hj; omega
      by_cases hjt : j = t
      · subst hjt
        obtain rfl : oj = ot := Option.some.inj (hoj.symm.trans hot)
        have h2 := hall e he hb
        rw [hon, getD_both hun] at h2
        cases h2
      · cases hl : listed.getD j false with
        | true =>
          have h2 := inv.closed j oj hoj hl e he hb
          rw [hon, getD_both hun] at h2
          cases h2
        | false =>
          have hjs : j < listed.size := by rw [inv.size]; omega
          exact ih (t - j) (by omega) j rfl (by omega) (getD_in hjs hl) t (Nat.le_refl _) hr
    · have h1 := List.all_eq_true.1 hd t (List.mem_range.2 htlt)
      simp only [Bool.or_eq_true, decide_eq_true_eq] at h1
      rcases h1 with h1 | h1
      · omega
      · obtain ⟨j, hj, hj2⟩ := List.any_eq_true.1 h1
        simp only [Bool.and_eq_true, decide_eq_true_eq] at hj2
        obtain ⟨o', ho', e, he, hb, hon⟩ := Region.waitsFor_spec hj2.2
        obtain rfl : o' = ot := Option.some.inj (ho'.symm.trans hot)
        have h2 := hall e he hb
        rw [hon, getD_both (inv.tail j hj2.1 (by have := List.mem_range.1 hj; omega))] at h2
        cases h2

theorem anyL_first {n i : Nat} {oi : Oper} {v : Value} {L : Array Bool → Act → Prop} (hi : ops[i]? = some oi) (hsel : ∀ (j : Nat) (o : Oper) cs b, ops[j]? = some o → o.op ≠ .select cs b)
    (hs : Region.sinkB md ops n = true) (hd : depB md ops n = true) (hin : i < n) (hdone : ∀ listed a, L listed a → ∀ j ∈ Region.ready md ops listed, n ≤ j) :
    ∀ (f : Nat) (listed : Array Bool) (a : Act), HeadInv md ops n listed →
      (∀ j oj, ops[j]? = some oj → j ≠ i → listed.getD j true = false → (∀ e ∈ oj.after, Region.binds md e = true → e.on ≠ i) → oi.apart ops oj = true) →
      i ∈ Region.ready md ops listed → YieldsAt P ops w oi v a →
      wpAnyL P md ops w n L f (listed.setIfInBounds i true) (a.put oi.dst v) → wpAnyL P md ops w n L (f + 1) listed a := by
  intro f
  induction f with
  | zero =>
    intro listed a inv _ hr hy H
    have hun := (mem_ready.1 hr).1
    refine ⟨fun h => (by rw [h] at hr; cases hr), fun j hj => ?_⟩
    have hjn : j < n := (Nat.lt_or_ge j n).elim id fun h => absurd hj (dep_waits hs hd inv _ i rfl hin hun j h)
    refine ⟨hjn, ?_⟩
    by_cases hji : j = i
    · subst hji; exact hy.stOp hi H
    · have := hdone _ _ H j (ready_mono hj hji)
      omega
  | succ f ih =>
    intro listed a inv hfree hr hy H
    have hun := (mem_ready.1 hr).1
    refine ⟨fun h => (by rw [h] at hr; cases hr), fun j hj => ?_⟩
    have hjn : j < n := (Nat.lt_or_ge j n).elim id fun h => absurd hj (dep_waits hs hd inv _ i rfl hin hun j h)
    refine ⟨hjn, ?_⟩
    by_cases hji : j = i
    · subst hji; exact hy.stOp hi H
    · have h1 := (H.2 j (ready_mono hj hji)).2
      obtain ⟨hjun, oj, hoj, hall⟩ := mem_ready.1 hj
      have hnot : ∀ e ∈ oj.after, Region.binds md e = true → e.on ≠ i := fun e he hb heq => by
        have h1 := hall e he hb
        rw [heq, getD_both hun] at h1
        cases h1
      have h2 := stOp_put hoj (hfree j oj hoj hji hjun hnot) (fun cs b => hsel i oi cs b hi) (fun cs b => hsel j oj cs b hoj) hy h1
      refine stOp_mono (fun a' h3 => ih (listed.setIfInBounds j true) a' (inv.set hj hjn) (fun k ok hk hki hun' hno => hfree k ok hk hki ?_ hno) (ready_mono hr (Ne.symm hji)) h3.1 ?_) h2
      · by_cases hjk : j = k
        · subst hjk; exact hjun
        · rw [getD_set_ne true hjk] at hun'; exact hun'
      · rw [Array.setIfInBounds_comm _ _ hji]
        exact h3.2

/-- The operations ahead of number n can be taken in the text's order; then n alone can come; then the others in the text's order. -/
def lexOne (md : Region.Mode) (ops : Array Oper) (g : Nat) : Nat → Nat → Array Bool → Bool
  | 0, k, listed => decide (Region.ready md ops listed = [k]) && Region.lexFrom md ops g (k + 1) (listed.setIfInBounds k true)
  | f + 1, k, listed => (Region.ready md ops listed).contains k && Region.free md ops listed k && lexOne md ops g f (k + 1) (listed.setIfInBounds k true)
def oneCallB (md : Region.Mode) (ops : Array Oper) (n : Nat) : Bool :=
  Region.noSelect ops && decide (n < ops.size) && Region.sinkB md ops n && depB md ops n && lexOne md ops (ops.size - n - 1) n 0 (Array.replicate ops.size false)

theorem anyL_lex {n g : Nat} {Lq : Act → Prop} (hsel : Region.noSelect ops = true) (hs : Region.sinkB md ops n = true) (hd : depB md ops n = true) :
    ∀ (l : List Oper) (k : Nat) (listed : Array Bool) (a : Act), (∀ j, j < l.length → l[j]? = ops[k + j]?) → k + l.length = n → HeadInv md ops n listed →
    lexOne md ops g l.length k listed = true → wpStill P ops w Lq l a →
    wpAnyL P md ops w n (fun listed' a' => (decide (Region.ready md ops listed' = [n]) && Region.lexFrom md ops g (n + 1) (listed'.setIfInBounds n true)) = true ∧ Lq a') l.length listed a
  | [], k, listed, a, _, hk, _, hB, h => by
    obtain rfl : k = n := by simpa using hk
    exact ⟨hB, h⟩
  | o :: l, k, listed, a, hl, hk, inv, hB, h => by
    have h0 : ops[k]? = some o := by simpa using (hl 0 (by simp)).symm
    simp only [List.length_cons, lexOne, Bool.and_eq_true] at hB
    obtain ⟨⟨hr, hf⟩, hB'⟩ := hB
    have hkn : k < n := by simp only [List.length_cons] at hk; omega
    have hr' : k ∈ Region.ready md ops listed := by simpa using hr
    have hst : stOp P ops w k (wpStill P ops w Lq l) a := by unfold stOp; simp only [h0]; exact h
    obtain ⟨v, hy, hK⟩ := yieldsAt_of_stOp h0 hst
    refine anyL_first h0 (Region.noSelect_spec hsel) hs hd hkn (fun listed' a' hL j hj => ?_) l.length listed a inv (Region.free_spec h0 hf) hr' hy
      (anyL_lex hsel hs hd l (k + 1) _ _ (fun j hj => by have := hl (j + 1) (by simp; omega); simpa [Nat.add_assoc, Nat.add_comm 1 j] using this) (by simp only [List.length_cons] at hk; omega) (inv.set hr' hkn) hB' hK)
    have h1 := hL.1
    simp only [Bool.and_eq_true, decide_eq_true_eq] at h1
    rw [h1.1] at hj
    have : j = n := by simpa using hj
    omega

theorem wp_region_one {id : Nat} {Q : Exit → Act → World → Prop} {a : Act} {l : List Oper} (n : Nat) (hm : P.follows .mixedOrders = true) (hB : oneCallB .any l.toArray n = true)
    (h : wpStill P l.toArray w.drew (fun a' => wpOp P l.toArray Q n (fun a2 w2 => wpStill P l.toArray w2 (fun a3 => Q .normal a3 w2) (l.drop (n + 1)) a2) a' w.drew) (l.take n) a) : (Code.region id l.toArray true).wp P Q a w := by
  simp only [oneCallB, Bool.and_eq_true, decide_eq_true_eq] at hB
  obtain ⟨⟨⟨⟨hsel, hn⟩, hs⟩, hd⟩, hlex⟩ := hB
  have hn' : n < l.length := by simpa using hn
  have htl : (l.take n).length = n := by simp; omega
  have hdl : (l.drop (n + 1)).length = l.toArray.size - n - 1 := by simp; omega
  have inv0 : HeadInv .any l.toArray n (Array.replicate l.toArray.size false) :=
    ⟨by simp, fun j oj _ hl => (by rw [getD_replicate_false] at hl; cases hl), fun t _ ht => getD_in (by simpa using ht) (getD_replicate_false _ _)⟩
  have H := anyL_lex (md := .any) (g := l.toArray.size - n - 1) hsel hs hd (l.take n) 0 _ a (fun j hj => by
    have hj' : j < n := by rw [htl] at hj; exact hj
    simp [hj']) (by simpa using htl) inv0 (by rw [htl]; exact hlex) h
  refine wp_region_any hm ?_
  have := wpAny_of_head (Q' := Q) (g := l.toArray.size - n) (fun listed a' hL => by
    obtain ⟨h1, h2⟩ := hL
    simp only [Bool.and_eq_true, decide_eq_true_eq] at h1
    rw [show l.toArray.size - n = (l.toArray.size - n - 1) + 1 by omega]
    refine ⟨fun h0 => (by rw [h1.1] at h0; cases h0), fun i hi => ?_⟩
    rw [h1.1] at hi
    obtain rfl : i = n := by simpa using hi
    refine wpOp_mono (fun a2 w2 h3 => ?_) h2
    have h4 := wpAnyS_lex (P := P) (md := .any) (w := w2) hsel (l.drop (i + 1)) (i + 1) (listed.setIfInBounds i true) a2 (fun j => by simp [List.getElem?_drop]) (by rw [hdl]; exact h1.2) h3
    rw [hdl] at h4
    exact wpAny_of_still (Q := fun a3 => Q .normal a3 w2) (fun _ h => h) _ _ _ h4) _ _ _ H
  rw [htl, show n + (l.toArray.size - n) = l.toArray.size by omega] at this
  exact this
/-- A still walk, kept shut. -/
structure SWk (P : Program) (ops : Array Oper) (w : World) (Q : Act → Prop) (l : List Oper) (a : Act) : Prop where
  out : wpStill P ops w Q l a
theorem swk_want {Q : Act → Prop} {a : Act} {o : Oper} {rest : List Oper} (h : Region.wanted o (yielded ops a.tmps) = true) (k : ∀ K : Act → Prop, (∀ a, SWk P ops w Q rest a → K a) → o.still P a w K) : SWk P ops w Q (o :: rest) a :=
  ⟨wpStill_step fun K hK => by rw [if_pos h]; exact k K fun a ha => hK a ha.out⟩
theorem swk_skip {Q : Act → Prop} {a : Act} {o : Oper} {rest : List Oper} (h : Region.wanted o (yielded ops a.tmps) = false) (k : SWk P ops w Q rest (a.put o.dst undef)) : SWk P ops w Q (o :: rest) a :=
  ⟨wpStill_step fun K hK => by rw [if_neg (by rw [h]; exact Bool.false_ne_true)]; exact hK _ k.out⟩
theorem swk_nil {Q : Act → Prop} {a : Act} (h : Q a) : SWk P ops w Q [] a := ⟨wpStill_nil h⟩
theorem still_imp {Q Q' : Act → Prop} (hq : ∀ a, Q a → Q' a) : ∀ (l : List Oper) (a : Act), wpStill P ops w Q l a → wpStill P ops w Q' l a
  | [], a, h => hq a h
  | o :: l, a, h => by
    unfold wpStill at h ⊢
    split
    · rename_i hw
      rw [if_pos hw] at h
      exact Oper.still_mono (fun a h => still_imp hq l a h) h
    · rename_i hw
      rw [if_neg hw] at h
      exact still_imp hq l _ h
/-- The one call. -/
structure OneK (P : Program) (l : List Oper) (n : Nat) (Q : Exit → Act → World → Prop) (a : Act) (w : World) : Prop where
  out : wpOp P l.toArray Q n (fun a2 w2 => wpStill P l.toArray w2 (fun a3 => Q .normal a3 w2) (l.drop (n + 1)) a2) a w
theorem one_want {Q : Exit → Act → World → Prop} {a : Act} {l : List Oper} {n : Nat} {o : Oper} (ho : l.toArray[n]? = some o) (hw : Region.wanted o (yielded l.toArray a.tmps) = true)
    (h : ∀ K : Act → World → Prop, (∀ a2 w2, SWk P l.toArray w2 (fun a3 => Q .normal a3 w2) (l.drop (n + 1)) a2 → K a2 w2) → o.wp P a w K Q) : OneK P l n Q a w := by
  refine ⟨?_⟩
  unfold wpOp
  simp only [ho, hw, if_true]
  exact .inl (h _ fun a2 w2 h => h.out)
theorem region_one {id : Nat} {Q : Exit → Act → World → Prop} {a : Act} {l : List Oper} (n : Nat) (hm : P.follows .mixedOrders = true) (hB : oneCallB .any l.toArray n = true)
    (h : SWk P l.toArray w.drew (fun a' => OneK P l n Q a' w.drew) (l.take n) a) : (Code.region id l.toArray true).wp P Q a w :=
  wp_region_one n hm hB (still_imp (fun _ h => h.out) _ _ h.out)
end
end Go.Proofs.YtfcogjlojfcfkaaGreat
end
