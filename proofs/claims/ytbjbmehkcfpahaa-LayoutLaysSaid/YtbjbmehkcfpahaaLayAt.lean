/- What the layout's own object looks like in memory, and what its methods leave alone. Definitions and plain laws of memory. -/
import Derived.Test.YtbjbmehkcfpahaaLayToks
import Derived.Deep.RegionHeld3
import Derived.Deep.AppendLies
import Derived.Deep.DrawnRows
import Derived.Deep.LoopGhost
import Derived.Deep.QuietTactic
import Derived.BigQuiet
import Derived.IntWalk
import Derived.RegionTactic
namespace Go.Proofs.Ytbjbmehkcfpahaa
open Go.RowKit Lx

def rtCells (t : Rt) : List Value := [.int .i64 t.kind, .string (bt t.text), .int .i64 t.n, .int .i64 t.line, .int .i64 t.col]
def rtsCells (ts : List Rt) : List Value := ts.flatMap rtCells
theorem rtsCells_snoc (ts : List Rt) (t : Rt) : rtsCells (ts ++ [t]) = rtsCells ts ++ rtCells t := by simp [rtsCells]
theorem rt_one (t : Rt) : ∀ u ∈ rtCells t, u.oneCell' = true := by
  intro u hu
  simp [rtCells] at hu
  rcases hu with rfl | rfl | rfl | rfl | rfl <;> rfl

def enS : En → Int
  | .blk _ => 1
  | .brc => 2
  | .mk _ => 3
def enC : En → Int
  | .blk c => c
  | _ => 0
def enK : En → List UInt8
  | .mk m => m.txt
  | _ => []
def enCells (e : En) : List Value := [.int .i64 (enS e), .int .i64 (enC e), .string (bt (enK e))]
def enV (e : En) : Value := .agg #[.int .i64 (enS e), .int .i64 (enC e), .string (bt (enK e))]
def ensCells : List En → List Value
  | [] => []
  | e :: r => ensCells r ++ enCells e
theorem en_one (e : En) : ∀ u ∈ enCells e, u.oneCell' = true := by
  intro u hu
  simp [enCells] at hu
  rcases hu with rfl | rfl | rfl <;> rfl

/-- Where the current block lies, the topmost entry that is not loose, the topmost one that is no block. -/
def rcB : List En → Int
  | [] => -1
  | .blk _ :: r => r.length
  | .brc :: _ => -1
  | .mk _ :: r => rcB r
def rcF : List En → Int
  | [] => -1
  | e :: r => if e.loose then rcF r else r.length
def rcO : List En → Int
  | [] => -1
  | e :: r => if e.isBlk then rcO r else r.length
def rcCells (rs : List En) : List Value := [.int .i64 (rcB rs), .int .i64 (rcF rs), .int .i64 (rcO rs)]
def rcV (rs : List En) : Value := .agg #[.int .i64 (rcB rs), .int .i64 (rcF rs), .int .i64 (rcO rs)]
def rcsCells : List En → List Value
  | [] => []
  | e :: r => rcsCells r ++ rcCells (e :: r)
theorem rc_one (rs : List En) : ∀ u ∈ rcCells rs, u.oneCell' = true := by
  intro u hu
  simp [rcCells] at hu
  rcases hu with rfl | rfl | rfl <;> rfl

theorem ens_len : ∀ rs : List En, (ensCells rs).length = rs.length * 3
  | [] => rfl
  | e :: r => by simp [ensCells, ens_len r, enCells]; omega
theorem rcs_len : ∀ rs : List En, (rcsCells rs).length = rs.length * 3
  | [] => rfl
  | e :: r => by simp [rcsCells, rcs_len r, rcCells]; omega
theorem ens_take : ∀ (ab r : List En), (ensCells (ab ++ r)).take (r.length * 3) = ensCells r
  | [], r => by
    rw [List.nil_append, ← ens_len r, List.take_length]
  | e :: ab, r => by
    have h := ens_take ab r
    simp only [List.cons_append, ensCells]
    rw [List.take_append_of_le_length (by rw [ens_len]; simp; omega), h]
theorem rcs_take : ∀ (ab r : List En), (rcsCells (ab ++ r)).take (r.length * 3) = rcsCells r
  | [], r => by
    rw [List.nil_append, ← rcs_len r, List.take_length]
  | e :: ab, r => by
    have h := rcs_take ab r
    simp only [List.cons_append, rcsCells]
    rw [List.take_append_of_le_length (by rw [rcs_len]; simp; omega), h]
theorem ens_at (ab : List En) (e : En) (r : List En) (j : Nat) (hj : j < 3) : (ensCells (ab ++ e :: r))[r.length * 3 + j]? = (enCells e)[j]? := by
  have h := ens_take ab (e :: r)
  have hl : r.length * 3 + j < (e :: r).length * 3 := by simp; omega
  rw [← List.getElem?_take_of_lt hl, h, ensCells, List.getElem?_append_right (by rw [ens_len]; omega), ens_len]
  congr 1
  omega
theorem rcs_at (e : En) (r : List En) (j : Nat) (hj : j < 3) : (rcsCells (e :: r))[r.length * 3 + j]? = (rcCells (e :: r))[j]? := by
  rw [rcsCells, List.getElem?_append_right (by rw [rcs_len]; omega), rcs_len]
  congr 1
  omega

theorem rcB_lt : ∀ rs : List En, rcB rs < rs.length
  | [] => by simp [rcB]
  | .blk _ :: r => by simp only [rcB, List.length_cons]; omega
  | .brc :: r => by simp only [rcB, List.length_cons]; omega
  | .mk _ :: r => by have := rcB_lt r; simp only [rcB, List.length_cons]; omega
theorem rcB_ge : ∀ rs : List En, -1 ≤ rcB rs
  | [] => by simp [rcB]
  | .blk _ :: r => by simp only [rcB]; omega
  | .brc :: r => by simp [rcB]
  | .mk _ :: r => by have := rcB_ge r; simp only [rcB]; omega

/-- The object: where it lies, and its three slices. -/
structure St where
  g : Nat
  ve : Value
  vr : Value
  vo : Value

/-- The blocks that are the object's own. -/
def St.own (s : St) (i : Nat) : Prop := i = s.g ∨ s.ve.ownBlock = some i ∨ s.vr.ownBlock = some i ∨ s.vo.ownBlock = some i

/-- The object holds the stack rs (its top ahead) and what has been laid. -/
structure LayAt (w : World) (s : St) (rs : List En) (out : List Rt) : Prop where
  blk : w.heap[s.g]? = some (.cells #[s.ve, s.vr, s.vo] 63 (0, 0))
  en : w.ownsRow (s.g + 1) 88 3 s.ve rs.length (ensCells rs)
  rc : w.ownsRow (s.g + 1) 105 3 s.vr rs.length (rcsCells rs)
  ou : w.ownsRow (s.g + 1) 33 5 s.vo out.length (rtsCells out)

theorem own_same {w w' : World} {base : Nat} {e : TypeId} {size : Nat} {v : Value} {n : Nat} {xs : List Value} (h : w.ownsRow base e size v n xs) (hb : ∀ b, v.ownBlock = some b → w'.heap[b]? = w.heap[b]?) : w'.ownsRow base e size v n xs := by
  refine ⟨h.1, ?_⟩
  rcases h.2 with h0 | ⟨g, cap, cur, hv, hbase, hg, hr⟩
  · exact .inl h0
  · exact .inr ⟨g, cap, cur, hv, hbase, (hb g (by rw [hv]; rfl)).trans hg, hr⟩

theorem own_obj {w : World} {base : Nat} {e : TypeId} {size : Nat} {v : Value} {n : Nat} {xs : List Value} (h : w.ownsRow base e size v n xs) {b : Nat} (hb : v.ownBlock = some b) : ∃ cur, w.heap[b]? = some (.cells cur e (0, 0)) := by
  rcases h.2 with ⟨hv, _⟩ | ⟨g, cap, cur, hv, _, hg, _⟩
  · rw [hv] at hb; cases hb
  · rw [hv] at hb
    injection hb with hb
    exact ⟨cur, by rw [← hb]; exact hg⟩

/-- Rows of other elements lie in other blocks. -/
theorem own_ne {w : World} {base base' : Nat} {e e' : TypeId} {size size' : Nat} {v v' : Value} {n n' : Nat} {xs xs' : List Value} (h : w.ownsRow base e size v n xs) (h' : w.ownsRow base' e' size' v' n' xs') (hne : e ≠ e') : v.ownBlock = none ∨ v.ownBlock ≠ v'.ownBlock := by
  cases hv : v.ownBlock with
  | none => exact .inl rfl
  | some b =>
    refine .inr fun hv' => ?_
    obtain ⟨c, hc⟩ := own_obj h hv
    obtain ⟨c', hc'⟩ := own_obj h' hv'.symm
    rw [hc] at hc'
    injection hc' with hc'
    injection hc' with _ h2 _
    exact hne h2

theorem LayAt.g_lt {w : World} {s : St} {rs : List En} {out : List Rt} (h : LayAt w s rs out) : s.g < w.heap.size := (Array.getElem?_eq_some_iff.1 h.blk).1

theorem LayAt.own_lt {w : World} {s : St} {rs : List En} {out : List Rt} (h : LayAt w s rs out) {i : Nat} (hi : s.own i) : s.g ≤ i ∧ i < w.heap.size := by
  rcases hi with rfl | hi | hi | hi
  · exact ⟨Nat.le_refl _, h.g_lt⟩
  · have := h.en.lt i hi; omega
  · have := h.rc.lt i hi; omega
  · have := h.ou.lt i hi; omega

theorem LayAt.fresh {w : World} {s : St} {rs : List En} {out : List Rt} (h : LayAt w s rs out) {i : Nat} (hi : w.heap.size ≤ i) : ¬ s.own i := fun ho => by
  have := (h.own_lt ho).2; omega

theorem LayAt.kept {w w' : World} {s : St} {rs : List En} {out : List Rt} (h : LayAt w s rs out) (hk : ∀ i, s.own i → w'.heap[i]? = w.heap[i]?) : LayAt w' s rs out :=
  ⟨(hk _ (.inl rfl)).trans h.blk, own_same h.en fun b hb => hk b (.inr (.inl hb)), own_same h.rc fun b hb => hk b (.inr (.inr (.inl hb))), own_same h.ou fun b hb => hk b (.inr (.inr (.inr hb)))⟩

theorem LayAt.below {w w' : World} {s : St} {rs : List En} {out : List Rt} (h : LayAt w s rs out) (hb : Below w.heap.size w w') : LayAt w' s rs out :=
  h.kept fun i hi => hb.block i (h.own_lt hi).2

theorem LayAt.cells {w : World} {s : St} {rs : List En} {out : List Rt} (h : LayAt w s rs out) : w.cell? ⟨s.g, 0, none⟩ = some s.ve ∧ w.cell? ⟨s.g, 1, none⟩ = some s.vr ∧ w.cell? ⟨s.g, 2, none⟩ = some s.vo := by
  have := h.blk
  simp [World.cell?, this]
theorem LayAt.frozen {w : World} {s : St} {rs : List En} {out : List Rt} (h : LayAt w s rs out) (i : Nat) : w.frozen? ⟨s.g, i, none⟩ = false := by
  have := h.blk
  simp [World.frozen?, this]

/-- From w to w' nothing but the object's own blocks has turned; what was none of its own is none still. -/
structure Step (s s' : St) (w w' : World) : Prop where
  g : s'.g = s.g
  os : w'.os = w.os
  tape : w'.tape = w.tape
  output : w'.output = w.output
  size : w.heap.size ≤ w'.heap.size
  block : ∀ i, i < w.heap.size → ¬ s.own i → w'.heap[i]? = w.heap[i]? ∧ ¬ s'.own i

theorem Step.refl (s : St) (w : World) : Step s s w w := ⟨rfl, rfl, rfl, rfl, Nat.le_refl _, fun _ _ h => ⟨rfl, h⟩⟩
theorem Step.trans {s s1 s2 : St} {w w1 w2 : World} (h : Step s s1 w w1) (k : Step s1 s2 w1 w2) : Step s s2 w w2 :=
  ⟨k.g.trans h.g, k.os.trans h.os, k.tape.trans h.tape, k.output.trans h.output, Nat.le_trans h.size k.size, fun i hi hn =>
    have a := h.block i hi hn
    have b := k.block i (Nat.lt_of_lt_of_le hi h.size) a.2
    ⟨b.1.trans a.1, b.2⟩⟩
theorem Step.of_below {w w' : World} (s : St) (hb : Below w.heap.size w w') : Step s s w w' :=
  ⟨rfl, hb.os, hb.tape, hb.output, hb.size, fun i hi h => ⟨hb.block i hi, h⟩⟩
theorem Step.alloc {s s' : St} {w w' : World} (h : Step s s' w w') (o : Obj) : Step s s' w (w'.alloc o) := h.trans (.of_below s' (below_alloc _ _))
theorem Step.drew {s s' : St} {w w' : World} (h : Step s s' w w') : Step s s' w w'.drew := ⟨h.g, h.os, h.tape, h.output, h.size, h.block⟩
theorem Step.cell {s s' : St} {w w' : World} (h : Step s s' w w') {i : Nat} (hi : i < w.heap.size) (hn : ¬ s.own i) (o : Nat) : w'.cell? ⟨i, o, none⟩ = w.cell? ⟨i, o, none⟩ := World.cell?_of_block (a := ⟨i, o, none⟩) (h.block i hi hn).1
theorem Step.frozen {s s' : St} {w w' : World} (h : Step s s' w w') {i : Nat} (hi : i < w.heap.size) (hn : ¬ s.own i) (o : Nat) : w'.frozen? ⟨i, o, none⟩ = w.frozen? ⟨i, o, none⟩ := World.frozen?_of_block (a := ⟨i, o, none⟩) (h.block i hi hn).1

theorem bls_set {a w : World} (h : Below a.heap.size a w) {b : Nat} (hb : a.heap.size ≤ b) (i : Nat) (u : Value) : Below a.heap.size a (w.setCell ⟨b, i, none⟩ u) := h.setCell (p := ⟨b, i, none⟩) hb u
theorem bls_drewN {a w : World} {B : Nat} (h : Below B a w) (m : Nat) : Below B a (w.drewN m) := ⟨h.os, h.tape, h.output, h.size, h.block⟩

/-- What a method leaves. -/
def LPost (s : St) (w : World) (rs : List En) (out : List Rt) (v e : Ending) (w' : World) : Prop := e = v ∧ ∃ s', LayAt w' s' rs out ∧ Step s s' w w'

theorem info_en : (Try.prog.info? 88).map (fun i => (i.zero, i.size, i.bytes)) = some (some (.agg #[.int .i64 0, .int .i64 0, .string ⟨#[]⟩]), 3, 32) := by kernel_rfl
theorem under_ens : Try.prog.underlying 58 = some (.slice 88) := by kernel_rfl
theorem info_rc : (Try.prog.info? 105).map (fun i => (i.zero, i.size, i.bytes)) = some (some (.agg #[.int .i64 0, .int .i64 0, .int .i64 0]), 3, 24) := by kernel_rfl
theorem under_rcs : Try.prog.underlying 59 = some (.slice 105) := by kernel_rfl
theorem info_rt : (Try.prog.info? 33).map (fun i => (i.zero, i.size, i.bytes)) = some (some (.agg #[.int .i64 0, .string ⟨#[]⟩, .int .i64 0, .int .i64 0, .int .i64 0]), 5, 48) := by kernel_rfl
theorem under_rts : Try.prog.underlying 22 = some (.slice 33) := by kernel_rfl
end Go.Proofs.Ytbjbmehkcfpahaa
