/- Contracts of the stack's reach, column and cut, and of the object's emit and insert. No condition but bounds on what is open and laid. -/
import Derived.Test.YtbjbmehkcfpahaaLayLoose
namespace Go.Proofs.Ytbjbmehkcfpahaa
open Go.RowKit Lx
attribute [local go_sem] bt_size bt_get bt_list bt_toList bt_drop bt_take
attribute [local go_sem ↓] Go.wp_at_zero Go.wp_at_succ

theorem own_forms {w : World} {base size n : Nat} {e : TypeId} {v : Value} {xs : List Value} (h : w.ownsRow base e size v n xs) : (v = .slice none 0 0 ∧ n = 0) ∨ ∃ g cap, v = .slice (some ⟨g, 0, none⟩) n cap ∧ n ≤ cap ∧ cap ≤ maxLen := by
  rcases h.2 with h | ⟨g, cap, cur, hv, _, _, hn, hc, _⟩
  · exact .inl h
  · exact .inr ⟨g, cap, hv, hn, hc⟩

theorem reach_cells {w : World} {s : St} {e : En} {r : List En} {out : List Rt} (h : LayAt w s (e :: r) out) : ∃ q cap, s.vr = .slice (some ⟨q, 0, none⟩) (r.length + 1) cap ∧ r.length + 1 ≤ cap ∧ q < w.heap.size ∧
    w.cell? ⟨q, r.length * 3, none⟩ = some (.int .i64 (rcB (e :: r))) ∧ w.cell? ⟨q, r.length * 3 + 1, none⟩ = some (.int .i64 (rcF (e :: r))) ∧ w.cell? ⟨q, r.length * 3 + 2, none⟩ = some (.int .i64 (rcO (e :: r))) := by
  rcases own_forms h.rc with ⟨_, h0⟩ | ⟨q, cap, hv, hc, _⟩
  · simp at h0
  · have hr := h.rc
    rw [hv] at hr
    have hlt := hr.lt q rfl
    have key : ∀ j, j < 3 → w.cell? ⟨q, r.length * 3 + j, none⟩ = (rcCells (e :: r))[j]? := fun j hj => by
      rw [hr.cellAt (r.length * 3 + j) (by simp; omega), rcs_at e r j hj]
    exact ⟨q, cap, hv, hc, hlt.2, key 0 (by omega), key 1 (by omega), key 2 (by omega)⟩

set_option maxHeartbeats 1000000 in
set_option maxRecDepth 100000 in
theorem reach_any (w : World) (s : St) (rs : List En) (out : List Rt) (h : LayAt w s rs out) (hn : rs.length ≤ 10000000) :
    Calls Try.prog 88 #[.pointer (some ⟨s.g, 0, none⟩)] w fun e w' => e = .returned (rcV rs) ∧ Below w.heap.size w w' := by
  have hg := h.g_lt
  obtain ⟨c0, c1, c2⟩ := h.cells
  cases rs with
  | nil =>
    have hv : ∃ ao cap, s.vr = .slice ao 0 cap := by
      rcases own_forms h.rc with ⟨hv, _⟩ | ⟨q, cap, hv, _⟩
      · exact ⟨none, 0, hv⟩
      · exact ⟨_, cap, hv⟩
    obtain ⟨ao, cap, hv⟩ := hv
    rw [hv] at c1
    clear hv h
    go_enter Try.func88, Try.ntmps88
    go_wp2
    refine bodyPost_ret (v := rcV []) (by simp [results, go_sem, rcV, rcB, rcF, rcO]) rfl ⟨rfl, below_alloc _ _⟩
  | cons e r =>
    obtain ⟨q, cap, hv, hc, hq, k0, k1, k2⟩ := reach_cells h
    rw [hv] at c1
    have hn' : r.length ≤ 10000000 := by simp at hn; omega
    clear hv h hn
    unfold rcV
    generalize rcB (e :: r) = b1 at *
    generalize rcF (e :: r) = b2 at *
    generalize rcO (e :: r) = b3 at *
    generalize r.length = n at *
    go_enter Try.func88, Try.ntmps88
    go_wp2
    go_region
    go_wp2
    refine bodyPost_ret (v := .agg #[.int .i64 b1, .int .i64 b2, .int .i64 b3]) (by simp [results, go_sem]) rfl ⟨rfl, ?_⟩
    exact (below_alloc _ _).drew

theorem fld0 (a b c : Int) (w : World) : (Instr.field 105 (.agg #[.int .i64 a, .int .i64 b, .int .i64 c]) 0).run Try.prog w = .ok (.int .i64 a) w := by kernel_rfl
theorem fld1 (a b c : Int) (w : World) : (Instr.field 105 (.agg #[.int .i64 a, .int .i64 b, .int .i64 c]) 1).run Try.prog w = .ok (.int .i64 b) w := by kernel_rfl
theorem fld2 (a b c : Int) (w : World) : (Instr.field 105 (.agg #[.int .i64 a, .int .i64 b, .int .i64 c]) 2).run Try.prog w = .ok (.int .i64 c) w := by kernel_rfl
attribute [local go_sem] fld0 fld1 fld2

/-- The entry at the current block's place. -/
theorem cur_split : ∀ (rs : List En) (c : Int), curC rs = some c → ∃ ab, rs = ab ++ .blk c :: curR rs ∧ rcB rs = (curR rs).length ∧ ab.all En.loose = curL rs ∧ ∀ e ∈ ab, ∃ m, e = .mk m
  | [], c, h => by simp [curC] at h
  | .blk d :: r, c, h => by
    simp [curC] at h
    subst h
    exact ⟨[], rfl, rfl, rfl, by simp⟩
  | .brc :: r, c, h => by simp [curC] at h
  | .mk m :: r, c, h => by
    simp only [curC] at h
    obtain ⟨ab, h1, h2, h3, h4⟩ := cur_split r c h
    refine ⟨.mk m :: ab, ?_, ?_, ?_, ?_⟩
    · simp only [curR, List.cons_append, ← h1]
    · simp only [rcB, curR, h2]
    · simp only [List.all_cons, curL, h3]
      cases m <;> rfl
    · intro e he
      rcases List.mem_cons.1 he with rfl | he
      · exact ⟨m, rfl⟩
      · exact h4 e he
theorem cur_none : ∀ (rs : List En), curC rs = none → rcB rs = -1
  | [], _ => rfl
  | .blk d :: r, h => by simp [curC] at h
  | .brc :: r, _ => rfl
  | .mk m :: r, h => by simp only [rcB]; exact cur_none r (by simpa [curC] using h)

theorem entry_cells {w : World} {s : St} {ab r : List En} {e : En} {out : List Rt} (h : LayAt w s (ab ++ e :: r) out) : ∃ q cap, s.ve = .slice (some ⟨q, 0, none⟩) (ab.length + r.length + 1) cap ∧ ab.length + r.length + 1 ≤ cap ∧ cap ≤ maxLen ∧ q < w.heap.size ∧ EnAt w q (r.length * 3) e := by
  rcases own_forms h.en with ⟨_, h0⟩ | ⟨q, cap, hv, hc, hm⟩
  · simp at h0
  · have hr := h.en
    have hl : (ab ++ e :: r).length = ab.length + r.length + 1 := by simp; omega
    rw [hl] at hv hc hr
    rw [hv] at hr
    have hlt := hr.lt q rfl
    have key : ∀ j, j < 3 → w.cell? ⟨q, r.length * 3 + j, none⟩ = (enCells e)[j]? := fun j hj => by
      rw [hr.cellAt (r.length * 3 + j) (by omega), ens_at ab e r j hj]
    exact ⟨q, cap, hv, hc, hm, hlt.2, key 0 (by omega), key 1 (by omega), key 2 (by omega)⟩

set_option maxHeartbeats 1000000 in
set_option maxRecDepth 100000 in
theorem column_any (w : World) (s : St) (rs : List En) (out : List Rt) (h : LayAt w s rs out) (hn : rs.length ≤ 10000000) :
    Calls Try.prog 92 #[.pointer (some ⟨s.g, 0, none⟩)] w fun e w' => e = .returned (.int .i64 ((curC rs).getD 0)) ∧ Below w.heap.size w w' := by
  have HL := Lib.hid h
  have hg := h.g_lt
  obtain ⟨c0, c1, c2⟩ := h.cells
  cases hc : curC rs with
  | none =>
    have hb := cur_none rs hc
    clear hc h
    go_enter Try.func92, Try.ntmps92
    go_wp2_with fail
    refine (reach_any w s rs out HL.out hn).mono ?_
    rintro e w1 ⟨rfl, hb1⟩
    unfold rcV
    rw [hb]
    have HB1 := Lib.hid hb1
    clear hb1 hb
    go_wp2
    go_ret
    exact ⟨rfl, HB1.out⟩
  | some c =>
    obtain ⟨ab, h1, h2, h3, h4⟩ := cur_split rs c hc
    have h' := h
    rw [h1] at h'
    obtain ⟨q, cap, hv, hcap, hm, hq, k0, k1, k2⟩ := entry_cells h'
    have hl : (curR rs).length ≤ 10000000 := by have := congrArg List.length h1; simp at this; omega
    have hab : ab.length ≤ 10000000 := by have := congrArg List.length h1; simp at this; omega
    rw [hv] at c0
    have H2 := Lib.hid h2
    clear hc h h' h1 h2 h3 h4 hv
    generalize (curR rs).length = n at *
    generalize ab.length = a at *
    go_enter Try.func92, Try.ntmps92
    go_wp2_with fail
    refine (reach_any w s rs out HL.out hn).mono ?_
    rintro e w1 ⟨rfl, hb1⟩
    have d0 := (hb1.cell (p := ⟨s.g, 0, none⟩) hg).trans c0
    have d1 := (hb1.cell (p := ⟨q, n * 3 + 1, none⟩) hq).trans k1
    unfold rcV
    rw [H2.out]
    have HB1 := Lib.hid hb1
    clear hb1 c0 c1 c2 k0 k1 k2
    unfold enC at d1
    go_wp2
    go_ret
    exact ⟨rfl, HB1.out⟩
end Go.Proofs.Ytbjbmehkcfpahaa
