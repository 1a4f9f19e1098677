/- What an argument that is a slice of tokens is: its tokens as a list, and how many the bulk bears. No condition. -/
import Derived.Test.YtbjbmehkcfpahaaRows
import Derived.WalkKit
import Derived.ProofKit
import Derived.OpenShut
import Derived.JoinedCond
import Derived.Carry
import Derived.Deep.Slices
import Derived.Deep.Fields
import Derived.ChangeSame
import Derived.Test.YtbjbmehkcfpahaaLayEmpty
namespace Go.Proofs.Ytbjbmehkcfpahaa
open Go.ChangeShapes Go.WideShapes Go.ChangeAt Go.RowKit Go.Deep Lx

theorem own : ownKnob Try.prog.godebug = none := by kernel_rfl
theorem laidOut : laidOutB Try.prog = true := by kernel_rfl
noncomputable def tokFs : Array Field := (Try.prog.underlying 33).elim #[] fun | .struct fs => fs | _ => #[]
theorem underT : Try.prog.underlying 33 = some (.struct tokFs) := by kernel_rfl
theorem tok_size : tokFs.size = 5 := by kernel_rfl
theorem tok_cells : Try.prog.cellsOf 33 = 5 := by kernel_rfl
theorem tok_f0 : (tokFs[0]?).map (fun f => (f.offset, Try.prog.cellsOf f.type, Try.prog.underlying f.type)) = some (0, 1, some (.int .i64)) := by kernel_rfl
theorem tok_f1 : (tokFs[1]?).map (fun f => (f.offset, Try.prog.cellsOf f.type, Try.prog.underlying f.type)) = some (1, 1, some .string) := by kernel_rfl
theorem tok_f2 : (tokFs[2]?).map (fun f => (f.offset, Try.prog.cellsOf f.type, Try.prog.underlying f.type)) = some (2, 1, some (.int .i64)) := by kernel_rfl
theorem tok_f3 : (tokFs[3]?).map (fun f => (f.offset, Try.prog.cellsOf f.type, Try.prog.underlying f.type)) = some (3, 1, some (.int .i64)) := by kernel_rfl
theorem tok_f4 : (tokFs[4]?).map (fun f => (f.offset, Try.prog.cellsOf f.type, Try.prog.underlying f.type)) = some (4, 1, some (.int .i64)) := by kernel_rfl

theorem bulk_one {H : Type} (d : DataW H) : 1 ≤ Rows.uptoBulk d := by
  cases d with
  | lit l => cases l <;> simp [Rows.uptoBulk]
  | nil => simp [Rows.uptoBulk]
  | ptr d => simp [Rows.uptoBulk]
  | slice elems spare => simp [Rows.uptoBulk]
  | agg parts => simp [Rows.uptoBulk]
  | iface t d => simp [Rows.uptoBulk]
  | map entries => simp [Rows.uptoBulk]
  | held h => simp [Rows.uptoBulk]
theorem bulk_len {H : Type} (l : List (DataW H)) : l.length ≤ Rows.uptoBulkAll l := by
  induction l with
  | nil => simp [Rows.uptoBulkAll]
  | cons x r ih => have := bulk_one x; simp only [Rows.uptoBulkAll, List.length_cons]; omega
theorem bulk_six {H : Type} (l : List (DataW H)) (h : ∀ d ∈ l, 6 ≤ Rows.uptoBulk d) : 6 * l.length ≤ Rows.uptoBulkAll l := by
  induction l with
  | nil => simp [Rows.uptoBulkAll]
  | cons x r ih => have := h x (by simp); have := ih (fun d hd => h d (by simp [hd])); simp only [Rows.uptoBulkAll, List.length_cons]; omega


set_option maxRecDepth 100000 in
theorem tok_trod {H : Type} {enc : TypeId × Value → H} {W : World} {base : Nat} {sp : Nat → Bool} {held : Bool} {n : Nat} {cs : List Value} {x : DataW H × List MemPlace}
    (h : DataW.trod enc Try.prog W base sp held n 33 cs = some x) :
    ∃ t : Rt, cs = [.int .i64 t.kind, .string (bt t.text), .int .i64 t.n, .int .i64 t.line, .int .i64 t.col] ∧ (Lit.int .i64 t.col).wf = true ∧ 6 ≤ Rows.uptoBulk x.1 := by
  obtain ⟨ys, m, _, hx, hlen, hyl, hf⟩ := DataW.trod_struct underT h
  rw [tok_cells] at hlen
  rw [tok_size] at hyl
  have ht : ∀ (j : Nat) (c : Value) (u : TypeDesc), (tokFs[j]?).map (fun f => (f.offset, Try.prog.cellsOf f.type, Try.prog.underlying f.type)) = some (j, 1, some u) → cs[j]? = some c → j < 5 →
      ∃ ty y, Try.prog.underlying ty = some u ∧ DataW.trod enc Try.prog W base sp held m ty [c] = some y := by
    intro j c u hj hc hj5
    obtain ⟨f, hfj, he⟩ := Option.map_eq_some_iff.1 hj
    simp only [Prod.mk.injEq] at he
    obtain ⟨ho, hk, hu⟩ := he
    have h1 := hf j f hfj
    obtain ⟨hjl, hcj⟩ := List.getElem?_eq_some_iff.1 hc
    rw [ho, hk, List.drop_eq_getElem_cons hjl, hcj, List.getElem?_eq_getElem (by omega)] at h1
    exact ⟨f.type, _, hu, h1⟩
  match cs, hlen, ht with
  | [c0, c1, c2, c3, c4], _, ht =>
    obtain ⟨_, _, u0, t0⟩ := ht 0 c0 _ tok_f0 rfl (by omega)
    obtain ⟨_, _, u1, t1⟩ := ht 1 c1 _ tok_f1 rfl (by omega)
    obtain ⟨_, _, u2, t2⟩ := ht 2 c2 _ tok_f2 rfl (by omega)
    obtain ⟨_, _, u3, t3⟩ := ht 3 c3 _ tok_f3 rfl (by omega)
    obtain ⟨_, _, u4, t4⟩ := ht 4 c4 _ tok_f4 rfl (by omega)
    obtain ⟨n0, e0, _, _⟩ := DataW.trod_int u0 t0
    obtain ⟨s1, e1, _, _⟩ := DataW.trod_string u1 t1
    obtain ⟨n2, e2, _, _⟩ := DataW.trod_int u2 t2
    obtain ⟨n3, e3, _, _⟩ := DataW.trod_int u3 t3
    obtain ⟨n4, e4, _, w4⟩ := DataW.trod_int u4 t4
    simp only [List.cons.injEq, and_true] at e0 e1 e2 e3 e4
    subst e0 e1 e2 e3 e4
    refine ⟨⟨n0, s1.data.toList, n2, n3, n4⟩, rfl, w4, ?_⟩
    rw [hx]
    have := bulk_len (ys.map (·.1))
    simp only [Rows.uptoBulk, List.length_map] at this ⊢
    omega


set_option maxRecDepth 100000 in
theorem open_ts {H : Type} {enc : TypeId × Value → H} {W : World} {base : Nat} {v : Value} {d : DataW H} {p : List MemPlace}
    (hv : Value.okWide Try.prog W .any base 22 v) (h : DataW.Trod enc Try.prog W 0 (fun _ => true) true 22 v d p) :
    ∃ ts : List Rt, TsV W v ts ∧ 6 * ts.length ≤ Rows.uptoBulk d ∧ ∀ t ∈ ts, (Lit.int .i64 t.col).wf = true := by
  obtain ⟨a, len, cap, rfl⟩ := okWide_slice under_rts hv
  obtain ⟨fuel, hf⟩ := h
  rcases open_slice under_rts hf with ⟨hcs, hx⟩ | ⟨a', len', cap', m, n, D, Pl, hcs, hb, hl, hm, hmm, hx, hi⟩
  · simp only [Value.cells, List.cons.injEq, Value.slice.injEq, and_true] at hcs
    obtain ⟨rfl, rfl, rfl⟩ := hcs
    exact ⟨[], .inl ⟨rfl, _, _, rfl⟩, by simp, by simp⟩
  · simp only [Value.cells, List.cons.injEq, Value.slice.injEq, and_true] at hcs
    obtain ⟨rfl, rfl, rfl⟩ := hcs
    rw [tok_cells] at hi
    simp only [if_true] at hmm
    subst hmm
    simp only [Prod.mk.injEq] at hx
    have key : ∀ i, ∃ t : Rt, i < m → (W.cell? (a'.add (i * 5 + 0)) = some (.int .i64 t.kind) ∧ W.cell? (a'.add (i * 5 + 1)) = some (.string (bt t.text)) ∧ W.cell? (a'.add (i * 5 + 2)) = some (.int .i64 t.n) ∧
        W.cell? (a'.add (i * 5 + 3)) = some (.int .i64 t.line) ∧ W.cell? (a'.add (i * 5 + 4)) = some (.int .i64 t.col)) ∧ (Lit.int .i64 t.col).wf = true ∧ 6 ≤ Rows.uptoBulk (D i) := by
      intro i
      by_cases him : i < m
      · obtain ⟨cs', hc, ht⟩ := hi i him
        obtain ⟨t, rfl, hw, h6⟩ := tok_trod ht
        obtain ⟨_, _, hat⟩ := World.cells?_some hc
        have hk : ∀ k, k < 5 → W.cell? (a'.add (i * 5 + k)) = [Value.int .i64 t.kind, .string (bt t.text), .int .i64 t.n, .int .i64 t.line, .int .i64 t.col][k]? := fun k h => by rw [← Go.Deep.add_add]; exact hat k h
        exact ⟨t, fun _ => ⟨⟨hk 0 (by omega), hk 1 (by omega), hk 2 (by omega), hk 3 (by omega), hk 4 (by omega)⟩, hw, h6⟩⟩
      · exact ⟨⟨0, [], 0, 0, 0⟩, fun h => absurd h him⟩
    obtain ⟨f, hfk⟩ := Classical.axiomOfChoice key
    refine ⟨(List.range len).map f, ?_, ?_, ?_⟩
    · by_cases h0 : len = 0
      · subst h0
        exact .inl ⟨rfl, _, _, rfl⟩
      · obtain ⟨b, off, spot⟩ := a'
        have hc0 := ((hfk 0 (by omega)).1).1
        have hsp : spot = none := World.cell?_spot (a := ⟨b, off, spot⟩) (by simpa [Addr.add] using hc0)
        subst hsp
        have hadd : ∀ k, (Addr.mk b off none).add k = ⟨b, off + k, none⟩ := fun k => by unfold Addr.add; split <;> simp_all
        simp only [hadd] at hfk
        refine .inr ⟨by simp; omega, b, off, _, by simp, fun i t hit => ?_, ?_, by simpa using hl, hm⟩
        · simp only [List.getElem?_map, Option.map_eq_some_iff] at hit
          obtain ⟨j, hj, rfl⟩ := hit
          obtain ⟨hlt, rfl⟩ := List.getElem?_eq_some_iff.1 hj
          simp only [List.getElem_range]
          simp only [List.length_range] at hlt
          obtain ⟨⟨c0, c1, c2, c3, c4⟩, _, _⟩ := hfk i (by omega)
          exact ⟨by simpa using c0, by simpa [Nat.add_assoc] using c1, by simpa [Nat.add_assoc] using c2, by simpa [Nat.add_assoc] using c3, by simpa [Nat.add_assoc] using c4⟩
        · have hc := ((hfk 0 (by omega)).1).1
          rcases Nat.lt_or_ge b W.heap.size with hlt | hge
          · exact hlt
          · have : W.heap[b]? = none := by simp; omega
            simp [World.cell?, this] at hc
    · rw [hx.1]
      have := bulk_six ((List.range len).map D) (fun d hd => by
        obtain ⟨i, hi', rfl⟩ := List.mem_map.1 hd
        exact (hfk i (by have := List.mem_range.1 hi'; omega)).2.2)
      simp only [Rows.uptoBulk, List.length_map, List.length_range] at this ⊢
      omega
    · intro t ht
      obtain ⟨i, hi', rfl⟩ := List.mem_map.1 ht
      exact (hfk i (by have := List.mem_range.1 hi'; omega)).2.1
end Go.Proofs.Ytbjbmehkcfpahaa
