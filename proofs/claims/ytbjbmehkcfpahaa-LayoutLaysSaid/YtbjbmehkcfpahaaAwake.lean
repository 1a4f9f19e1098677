/- The contract of the statements' own function awake: it answers true, and what was there before stays. No condition. -/
import Derived.Test.YtbjbmehkcfpahaaRead
namespace Go.Proofs.Ytbjbmehkcfpahaa
open Go.RowKit Lx
attribute [local go_sem] bt_size bt_get bt_list bt_toList bt_drop bt_take

theorem read_any (l : List UInt8) (w : World) (hs : l.length ≤ maxLen) : Calls Try.prog 8 #[.string (bt l)] w fun e w' => ReadPost w l e w' := by
  by_cases h : 16384 < l.length
  · exact read_long l w h hs
  · exact read_short l w (by omega)

theorem read_ok {l : List UInt8} {ts : List Tk} {w : World} (h : readL l = .ok ts) (hs : l.length ≤ maxLen) :
    Calls Try.prog 8 #[.string (bt l)] w fun e w' => ∃ v, e = .returned (.tuple #[v, diagV 0 0 0]) ∧ w'.ownsRow w.heap.size 33 5 v ts.length (toksCells ts) ∧ Below w.heap.size w w' :=
  (read_any l w hs).mono fun e w' hp => by
    unfold ReadPost at hp
    rw [h] at hp
    exact hp

theorem read_err {l : List UInt8} {d : Dg} {w : World} (h : readL l = .error d) (hs : l.length ≤ maxLen) :
    Calls Try.prog 8 #[.string (bt l)] w fun e w' => e = .returned (.tuple #[.slice none 0 0, diagV d.line d.col d.num]) ∧ Below w.heap.size w w' :=
  (read_any l w hs).mono fun e w' hp => by
    unfold ReadPost at hp
    rw [h] at hp
    exact hp

/-- The tokens ts lie in block g, side by side. -/
def TokAt (w : World) (g : Nat) (ts : List Tk) : Prop := ∀ (i : Nat) (t : Tk), ts[i]? = some t →
  w.cell? ⟨g, i * 5, none⟩ = some (.int .i64 t.kind) ∧ w.cell? ⟨g, i * 5 + 1, none⟩ = some (.string (bt t.text)) ∧ w.cell? ⟨g, i * 5 + 2, none⟩ = some (.int .i64 t.n) ∧
  w.cell? ⟨g, i * 5 + 3, none⟩ = some (.int .i64 (t.line : Int)) ∧ w.cell? ⟨g, i * 5 + 4, none⟩ = some (.int .i64 (t.col : Int))

theorem toksCells_at : ∀ (ts : List Tk) (i : Nat) (t : Tk), ts[i]? = some t → ∀ j, j < 5 → (toksCells ts)[i * 5 + j]? = (tokCells t)[j]?
  | [], i, t, h, j, _ => by simp at h
  | a :: ts, 0, t, h, j, hj => by
    simp at h
    subst h
    have hl : (tokCells a).length = 5 := rfl
    simp only [toksCells, List.flatMap_cons, Nat.zero_mul, Nat.zero_add]
    rw [List.getElem?_append_left (by omega)]
  | a :: ts, i + 1, t, h, j, hj => by
    simp at h
    have hl : (tokCells a).length = 5 := rfl
    have := toksCells_at ts i t h j hj
    simp only [toksCells, List.flatMap_cons] at this ⊢
    rw [List.getElem?_append_right (by omega), hl, ← this]
    congr 1
    omega

theorem toks_form {w : World} {base : Nat} {v : Value} {ts : List Tk} (h : w.ownsRow base 33 5 v ts.length (toksCells ts)) (hn : 0 < ts.length) :
    ∃ g cap, v = .slice (some ⟨g, 0, none⟩) ts.length cap ∧ base ≤ g ∧ g < w.heap.size ∧ ts.length ≤ cap ∧ TokAt w g ts := by
  rcases h.2 with ⟨_, h0⟩ | ⟨g, cap, cur, rfl, hb, hg, hnc, _, hcs, ht⟩
  · omega
  · refine ⟨g, cap, rfl, hb, (Array.getElem?_eq_some_iff.1 hg).1, hnc, fun i t hi => ?_⟩
    have hil : i < ts.length := (List.getElem?_eq_some_iff.1 hi).1
    have key : ∀ j, j < 5 → w.cell? ⟨g, i * 5 + j, none⟩ = (tokCells t)[j]? := fun j hj => by
      rw [cell_of_row w g _ cur _ (0, 0) hg, ← toksCells_at ts i t hi j hj, ← ht, List.getElem?_take_of_lt (by omega)]
      simp
    exact ⟨key 0 (by omega), key 1 (by omega), key 2 (by omega), key 3 (by omega), key 4 (by omega)⟩

theorem TokAt.below {w w' : World} {g B : Nat} {ts : List Tk} (h : TokAt w g ts) (hb : Below B w w') (hg : g < B) : TokAt w' g ts := fun i t hi => by
  obtain ⟨a, b, c, d, e⟩ := h i t hi
  have k : ∀ o, w'.cell? ⟨g, o, none⟩ = w.cell? ⟨g, o, none⟩ := fun o => hb.cell (p := ⟨g, o, none⟩) hg
  rw [k, k, k, k, k]
  exact ⟨a, b, c, d, e⟩

/-- Block g is a Diag. -/
def DiagAt (w : World) (g : Nat) (l c n : Int) : Prop := w.cell? ⟨g, 0, none⟩ = some (.string ⟨#[]⟩) ∧ w.cell? ⟨g, 1, none⟩ = some (.int .i64 l) ∧ w.cell? ⟨g, 2, none⟩ = some (.int .i64 c) ∧ w.cell? ⟨g, 3, none⟩ = some (.int .i64 n)
theorem diagAt_new (w : World) (l c n : Int) : DiagAt (w.alloc (.cells #[.string ⟨#[]⟩, .int .i64 l, .int .i64 c, .int .i64 n] 25)) w.heap.size l c n := by
  refine ⟨?_, ?_, ?_, ?_⟩ <;> simp
theorem DiagAt.below {w w' : World} {g B : Nat} {l c n : Int} (h : DiagAt w g l c n) (hb : Below B w w') (hg : g < B) : DiagAt w' g l c n := by
  have k : ∀ o, w'.cell? ⟨g, o, none⟩ = w.cell? ⟨g, o, none⟩ := fun o => hb.cell (p := ⟨g, o, none⟩) hg
  unfold DiagAt
  rw [k, k, k, k]
  exact h

def txt1 : List UInt8 := [102, 39, 32, 120, 61, 120, 43, 48]
def txt2 : List UInt8 := [97, 45, 45, 98, 10, 45, 45, 62, 99]
def txt3 : List UInt8 := [48, 48, 55, 32, 57, 50, 50, 51, 51, 55, 50, 48, 51, 54, 56, 53, 52, 55, 55, 53, 56, 48, 56]
def tks1 : List Tk := [⟨1, [102, 39], 0, 1, 1⟩, ⟨1, [120], 0, 1, 4⟩, ⟨8, [61], 0, 1, 5⟩, ⟨1, [120], 0, 1, 6⟩, ⟨3, [43], 0, 1, 7⟩, ⟨5, [48], 0, 1, 8⟩, ⟨9, [], 0, 1, 9⟩]
def tks2 : List Tk := [⟨1, [97], 0, 1, 1⟩, ⟨3, [45, 45, 62], 0, 2, 1⟩, ⟨1, [99], 0, 2, 4⟩, ⟨9, [], 0, 2, 5⟩]
theorem rl1 : readL txt1 = .ok tks1 := by kernel_rfl
theorem rl2 : readL txt2 = .ok tks2 := by kernel_rfl
theorem rl3 : readL txt3 = .error ⟨1, 5, 12⟩ := by kernel_rfl

set_option maxHeartbeats 1000000 in
set_option maxRecDepth 100000 in
theorem awake_any (w : World) : Calls Try.prog 11 #[] w fun e w' => e = .returned (.bool true) ∧ Below w.heap.size w w' := by
  go_enter Try.func11, Try.ntmps11
  go_wp2_with fail
  refine (read_ok (l := txt1) rl1 (by simp [txt1, maxLen])).mono ?_
  rintro e w1 ⟨v1, rfl, ho1, hb1⟩
  obtain ⟨g1, cap1, rfl, hg1, hl1, hc1, ht1⟩ := toks_form ho1 (by decide)
  have HT1 := Lib.hid ht1
  have HB1 := Lib.hid hb1
  clear ho1 ht1 hb1
  unfold diagV
  go_wp2_with fail
  refine (read_ok (l := txt2) rl2 (by simp [txt2, maxLen])).mono ?_
  rintro e w2 ⟨v2, rfl, ho2, hb2⟩
  obtain ⟨g2, cap2, rfl, hg2, hl2, hc2, ht2⟩ := toks_form ho2 (by decide)
  have HT2 := Lib.hid ht2
  have HB2 := Lib.hid hb2
  clear ho2 ht2 hb2
  unfold diagV
  go_wp2_with fail
  refine (read_err (l := txt3) rl3 (by simp [txt3, maxLen])).mono ?_
  rintro e w3 ⟨rfl, hb3⟩
  have z2 : w1.heap.size + 1 ≤ w2.heap.size := by have := HB2.out.size; simpa using this
  have z3 : w2.heap.size + 1 ≤ w3.heap.size := by have := hb3.size; simpa using this
  have T1 : TokAt w3 g1 tks1 := ((HT1.out.below (below_alloc w1 _) hl1).below (HB2.out) (by simp; omega)).below ((below_alloc w2 _).trans (hb3.mono (by simp))) (by omega)
  have T2 : TokAt w3 g2 tks2 := HT2.out.below ((below_alloc w2 _).trans (hb3.mono (by simp))) hl2
  have a1 := (T1 2 ⟨8, [61], 0, 1, 5⟩ rfl).1
  have a2 := (T1 5 ⟨5, [48], 0, 1, 8⟩ rfl).1
  obtain ⟨b0, b1, b2, b3, b4⟩ := T2 1 ⟨3, [45, 45, 62], 0, 2, 1⟩ rfl
  have b5 := (T2 3 ⟨9, [], 0, 2, 5⟩ rfl).2.2.2.2
  clear T1 T2
  simp only [Nat.reduceMul, Nat.reduceAdd, Nat.one_mul] at a1 a2 b0 b1 b2 b3 b4 b5
  have e1 : tks1.length = 7 := rfl
  have e2 : tks2.length = 4 := rfl
  rw [e1, e2]
  rw [e1] at hc1
  rw [e2] at hc2
  clear e1 e2
  have y1 : w1.heap.size < w3.heap.size := by omega
  have y2 : w2.heap.size < w3.heap.size := by omega
  have y3 : g1 < w3.heap.size := by omega
  have y4 : g2 < w3.heap.size := by omega
  have D1 : DiagAt w3 w1.heap.size 0 0 0 := ((diagAt_new w1 0 0 0).below HB2.out (by simp)).below ((below_alloc w2 _).trans (hb3.mono (by simp))) (by omega)
  have D2 : DiagAt w3 w2.heap.size 0 0 0 := (diagAt_new w2 0 0 0).below hb3 (by simp)
  obtain ⟨p0, p1, p2, p3⟩ := D1
  obtain ⟨q0, q1, q2, q3⟩ := D2
  have HB3 := Lib.hid hb3
  clear hb3
  unfold diagV
  go_wp2
  go_ret
  refine ⟨rfl, ?_⟩
  exact ((HB1.out.trans (((below_alloc w1 _).trans (HB2.out.mono (by simp))).mono HB1.out.size)).trans (((below_alloc w2 _).trans (HB3.out.mono (by simp))).mono (by have := HB1.out.size; omega))).alloc (by have := HB1.out.size; omega) _
end Go.Proofs.Ytbjbmehkcfpahaa
