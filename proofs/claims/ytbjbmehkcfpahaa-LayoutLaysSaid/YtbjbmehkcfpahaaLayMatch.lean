/- The contract of layout's matches, closer by closer: it says whether a closer ends an entry; what was there before stays. No condition. -/
import Derived.Test.YtbjbmehkcfpahaaLayEnt
namespace Go.Proofs.Ytbjbmehkcfpahaa
open Go.RowKit Lx
attribute [local go_sem] bt_size bt_get bt_list bt_toList bt_drop bt_take
attribute [local go_sem ↓] Go.wp_at_zero Go.wp_at_succ

theorem box3_new (w : World) (a b c : Value) (T : TypeId) : (w.alloc (.cells #[a, b, c] T)).cell? ⟨w.heap.size, 0, none⟩ = some a ∧ (w.alloc (.cells #[a, b, c] T)).cell? ⟨w.heap.size, 1, none⟩ = some b ∧ (w.alloc (.cells #[a, b, c] T)).cell? ⟨w.heap.size, 2, none⟩ = some c := by
  refine ⟨?_, ?_, ?_⟩ <;> simp
theorem blwS {w a b : World} {B : Nat} (h : Below B w a) (k : Below a.heap.size a b) (hB : B ≤ a.heap.size) : Below B w b := h.trans (k.mono hB)
theorem mark_par (w : World) : Calls Try.prog 64 #[.string (bt [40])] w fun e w' => e = .returned (.agg #[.int .i64 3, .int .i64 0, .string (bt [40])]) ∧ Below w.heap.size w w' := mark_any .par w
theorem mark_sqb (w : World) : Calls Try.prog 64 #[.string (bt [91])] w fun e w' => e = .returned (.agg #[.int .i64 3, .int .i64 0, .string (bt [91])]) ∧ Below w.heap.size w w' := mark_any .sqb w
theorem mark_cur (w : World) : Calls Try.prog 64 #[.string (bt [123])] w fun e w' => e = .returned (.agg #[.int .i64 3, .int .i64 0, .string (bt [123])]) ∧ Below w.heap.size w w' := mark_any .cur w
theorem mark_ift (w : World) : Calls Try.prog 64 #[.string (bt [105, 102])] w fun e w' => e = .returned (.agg #[.int .i64 3, .int .i64 0, .string (bt [105, 102])]) ∧ Below w.heap.size w w' := mark_any .ift w
theorem mark_thn (w : World) : Calls Try.prog 64 #[.string (bt [116, 104, 101, 110])] w fun e w' => e = .returned (.agg #[.int .i64 3, .int .i64 0, .string (bt [116, 104, 101, 110])]) ∧ Below w.heap.size w w' := mark_any .thn w
theorem mark_cas (w : World) : Calls Try.prog 64 #[.string (bt [99, 97, 115, 101])] w fun e w' => e = .returned (.agg #[.int .i64 3, .int .i64 0, .string (bt [99, 97, 115, 101])]) ∧ Below w.heap.size w w' := mark_any .cas w
theorem mark_lt (w : World) : Calls Try.prog 64 #[.string (bt [108, 101, 116])] w fun e w' => e = .returned (.agg #[.int .i64 3, .int .i64 0, .string (bt [108, 101, 116])]) ∧ Below w.heap.size w w' := mark_any .lt w
theorem braces_v (w : World) : Calls Try.prog 57 #[] w fun e w' => e = .returned (.agg #[.int .i64 2, .int .i64 0, .string (bt [])]) ∧ Below w.heap.size w w' := braces_any w

set_option maxHeartbeats 4000000 in
set_option maxRecDepth 100000 in
theorem matches_p (e : En) (w : World) : Calls Try.prog 95 #[.string (bt [41]), enV e] w fun x w' => x = .returned (.bool (fitB [41] e)) ∧ Below w.heap.size w w' := by
  cases e with
  | blk c =>
    show Calls Try.prog 95 #[.string (bt [41]), .agg #[.int .i64 1, .int .i64 c, .string (bt [])]] w fun x w' => x = .returned (.bool false) ∧ Below w.heap.size w w'
    go_enter Try.func95, Try.ntmps95
    go_wp2
    go_region_held3 (fun w' => w'.cell? ⟨w.heap.size, 0, none⟩ = some (.int .i64 1) ∧ w'.cell? ⟨w.heap.size, 1, none⟩ = some (.int .i64 c) ∧ w'.cell? ⟨w.heap.size, 2, none⟩ = some (.string (bt [])) ∧ w.heap.size < w'.heap.size ∧ Below w.heap.size w w')
      (first
        | (go_keep; done)
        | (go_split_ands
           exact ⟨(hb1.cell (p := ⟨w.heap.size, 0, none⟩) (by first | assumption | (simp; done))).trans (by first | assumption | (simp; done)), (hb1.cell (p := ⟨w.heap.size, 1, none⟩) (by first | assumption | (simp; done))).trans (by first | assumption | (simp; done)), (hb1.cell (p := ⟨w.heap.size, 2, none⟩) (by first | assumption | (simp; done))).trans (by first | assumption | (simp; done)), Nat.lt_of_lt_of_le (by first | assumption | (simp; done)) hb1.size, blwS (by first | assumption | exact (below_alloc _ _).drew | exact below_alloc _ _) hb1 (by first | (apply Nat.le_of_lt; assumption) | simp)⟩)
        | exact ⟨(enAt_new w (.blk c)).1, (enAt_new w (.blk c)).2.1, (enAt_new w (.blk c)).2.2, (by show w.heap.size < (w.alloc _).heap.size; simp), (below_alloc _ _).drew⟩)
      (first | (go_at_call 64; refine (mark_par _).mono ?_; rintro e w1 ⟨rfl, hb1⟩))
    all_goals go_wp2
    all_goals go_ret
    all_goals exact ⟨rfl, by first | (go_split_ands; assumption) | exact blw2 (below_alloc _ _).drew hb1⟩
  | brc =>
    show Calls Try.prog 95 #[.string (bt [41]), .agg #[.int .i64 2, .int .i64 0, .string (bt [])]] w fun x w' => x = .returned (.bool false) ∧ Below w.heap.size w w'
    go_enter Try.func95, Try.ntmps95
    go_wp2
    go_region_held3 (fun w' => w'.cell? ⟨w.heap.size, 0, none⟩ = some (.int .i64 2) ∧ w'.cell? ⟨w.heap.size, 1, none⟩ = some (.int .i64 0) ∧ w'.cell? ⟨w.heap.size, 2, none⟩ = some (.string (bt [])) ∧ w.heap.size < w'.heap.size ∧ Below w.heap.size w w')
      (first
        | (go_keep; done)
        | (go_split_ands
           exact ⟨(hb1.cell (p := ⟨w.heap.size, 0, none⟩) (by first | assumption | (simp; done))).trans (by first | assumption | (simp; done)), (hb1.cell (p := ⟨w.heap.size, 1, none⟩) (by first | assumption | (simp; done))).trans (by first | assumption | (simp; done)), (hb1.cell (p := ⟨w.heap.size, 2, none⟩) (by first | assumption | (simp; done))).trans (by first | assumption | (simp; done)), Nat.lt_of_lt_of_le (by first | assumption | (simp; done)) hb1.size, blwS (by first | assumption | exact (below_alloc _ _).drew | exact below_alloc _ _) hb1 (by first | (apply Nat.le_of_lt; assumption) | simp)⟩)
        | exact ⟨(enAt_new w .brc).1, (enAt_new w .brc).2.1, (enAt_new w .brc).2.2, (by show w.heap.size < (w.alloc _).heap.size; simp), (below_alloc _ _).drew⟩)
      (first | (go_at_call 64; refine (mark_par _).mono ?_; rintro e w1 ⟨rfl, hb1⟩))
    all_goals go_wp2
    all_goals go_ret
    all_goals exact ⟨rfl, by first | (go_split_ands; assumption) | exact blw2 (below_alloc _ _).drew hb1⟩
  | mk m =>
    show Calls Try.prog 95 #[.string (bt [41]), .agg #[.int .i64 3, .int .i64 0, .string (bt m.txt)]] w fun x w' => x = .returned (.bool (fitB [41] (.mk m))) ∧ Below w.heap.size w w'
    cases h0 : (m.txt == [40]) with
    | true =>
      obtain rfl : m = .par := by revert h0; cases m <;> simp [Mk.txt]
      clear h0
      show Calls Try.prog 95 #[.string (bt [41]), .agg #[.int .i64 3, .int .i64 0, .string (bt [40])]] w fun x w' => x = .returned (.bool true) ∧ Below w.heap.size w w'
      go_enter Try.func95, Try.ntmps95
      go_wp2
      go_region_held3 (fun w' => w'.cell? ⟨w.heap.size, 0, none⟩ = some (.int .i64 3) ∧ w'.cell? ⟨w.heap.size, 1, none⟩ = some (.int .i64 0) ∧ w'.cell? ⟨w.heap.size, 2, none⟩ = some (.string (bt [40])) ∧ w.heap.size < w'.heap.size ∧ Below w.heap.size w w')
        (first
          | (go_keep; done)
          | (go_split_ands
             exact ⟨(hb1.cell (p := ⟨w.heap.size, 0, none⟩) (by first | assumption | (simp; done))).trans (by first | assumption | (simp; done)), (hb1.cell (p := ⟨w.heap.size, 1, none⟩) (by first | assumption | (simp; done))).trans (by first | assumption | (simp; done)), (hb1.cell (p := ⟨w.heap.size, 2, none⟩) (by first | assumption | (simp; done))).trans (by first | assumption | (simp; done)), Nat.lt_of_lt_of_le (by first | assumption | (simp; done)) hb1.size, blwS (by first | assumption | exact (below_alloc _ _).drew | exact below_alloc _ _) hb1 (by first | (apply Nat.le_of_lt; assumption) | simp)⟩)
          | exact ⟨(enAt_new w (.mk .par)).1, (enAt_new w (.mk .par)).2.1, (enAt_new w (.mk .par)).2.2, (by show w.heap.size < (w.alloc _).heap.size; simp), (below_alloc _ _).drew⟩)
        (first | (go_at_call 64; refine (mark_par _).mono ?_; rintro e w1 ⟨rfl, hb1⟩))
      all_goals go_wp2
      all_goals go_ret
      all_goals exact ⟨rfl, by first | (go_split_ands; assumption) | exact blw2 (below_alloc _ _).drew hb1⟩
    | false =>
      have hf : fitB [41] (.mk m) = false := by
        cases m <;> first | rfl | (exfalso; first | exact absurd h0 (by decide))
      rw [hf]
      clear hf
      revert h0
      generalize m.txt = k
      intro h0
      go_enter Try.func95, Try.ntmps95
      go_wp2
      go_region_held3 (fun w' => w'.cell? ⟨w.heap.size, 0, none⟩ = some (.int .i64 3) ∧ w'.cell? ⟨w.heap.size, 1, none⟩ = some (.int .i64 0) ∧ w'.cell? ⟨w.heap.size, 2, none⟩ = some (.string (bt k)) ∧ w.heap.size < w'.heap.size ∧ Below w.heap.size w w')
        (first
          | (go_keep; done)
          | (go_split_ands
             exact ⟨(hb1.cell (p := ⟨w.heap.size, 0, none⟩) (by first | assumption | (simp; done))).trans (by first | assumption | (simp; done)), (hb1.cell (p := ⟨w.heap.size, 1, none⟩) (by first | assumption | (simp; done))).trans (by first | assumption | (simp; done)), (hb1.cell (p := ⟨w.heap.size, 2, none⟩) (by first | assumption | (simp; done))).trans (by first | assumption | (simp; done)), Nat.lt_of_lt_of_le (by first | assumption | (simp; done)) hb1.size, blwS (by first | assumption | exact (below_alloc _ _).drew | exact below_alloc _ _) hb1 (by first | (apply Nat.le_of_lt; assumption) | simp)⟩)
          | exact ⟨(box3_new w _ _ _ _).1, (box3_new w _ _ _ _).2.1, (box3_new w _ _ _ _).2.2, (by show w.heap.size < (w.alloc _).heap.size; simp), (below_alloc _ _).drew⟩)
        (first | (go_at_call 64; refine (mark_par _).mono ?_; rintro e w1 ⟨rfl, hb1⟩))
      all_goals go_wp2
      all_goals go_ret
      all_goals exact ⟨rfl, by first | (go_split_ands; assumption) | exact blw2 (below_alloc _ _).drew hb1⟩

set_option maxHeartbeats 4000000 in
set_option maxRecDepth 100000 in
theorem matches_s (e : En) (w : World) : Calls Try.prog 95 #[.string (bt [93]), enV e] w fun x w' => x = .returned (.bool (fitB [93] e)) ∧ Below w.heap.size w w' := by
  cases e with
  | blk c =>
    show Calls Try.prog 95 #[.string (bt [93]), .agg #[.int .i64 1, .int .i64 c, .string (bt [])]] w fun x w' => x = .returned (.bool false) ∧ Below w.heap.size w w'
    go_enter Try.func95, Try.ntmps95
    go_wp2
    go_region_held3 (fun w' => w'.cell? ⟨w.heap.size, 0, none⟩ = some (.int .i64 1) ∧ w'.cell? ⟨w.heap.size, 1, none⟩ = some (.int .i64 c) ∧ w'.cell? ⟨w.heap.size, 2, none⟩ = some (.string (bt [])) ∧ w.heap.size < w'.heap.size ∧ Below w.heap.size w w')
      (first
        | (go_keep; done)
        | (go_split_ands
           exact ⟨(hb1.cell (p := ⟨w.heap.size, 0, none⟩) (by first | assumption | (simp; done))).trans (by first | assumption | (simp; done)), (hb1.cell (p := ⟨w.heap.size, 1, none⟩) (by first | assumption | (simp; done))).trans (by first | assumption | (simp; done)), (hb1.cell (p := ⟨w.heap.size, 2, none⟩) (by first | assumption | (simp; done))).trans (by first | assumption | (simp; done)), Nat.lt_of_lt_of_le (by first | assumption | (simp; done)) hb1.size, blwS (by first | assumption | exact (below_alloc _ _).drew | exact below_alloc _ _) hb1 (by first | (apply Nat.le_of_lt; assumption) | simp)⟩)
        | exact ⟨(enAt_new w (.blk c)).1, (enAt_new w (.blk c)).2.1, (enAt_new w (.blk c)).2.2, (by show w.heap.size < (w.alloc _).heap.size; simp), (below_alloc _ _).drew⟩)
      (first | (go_at_call 64; refine (mark_sqb _).mono ?_; rintro e w1 ⟨rfl, hb1⟩))
    all_goals go_wp2
    all_goals go_ret
    all_goals exact ⟨rfl, by first | (go_split_ands; assumption) | exact blw2 (below_alloc _ _).drew hb1⟩
  | brc =>
    show Calls Try.prog 95 #[.string (bt [93]), .agg #[.int .i64 2, .int .i64 0, .string (bt [])]] w fun x w' => x = .returned (.bool false) ∧ Below w.heap.size w w'
    go_enter Try.func95, Try.ntmps95
    go_wp2
    go_region_held3 (fun w' => w'.cell? ⟨w.heap.size, 0, none⟩ = some (.int .i64 2) ∧ w'.cell? ⟨w.heap.size, 1, none⟩ = some (.int .i64 0) ∧ w'.cell? ⟨w.heap.size, 2, none⟩ = some (.string (bt [])) ∧ w.heap.size < w'.heap.size ∧ Below w.heap.size w w')
      (first
        | (go_keep; done)
        | (go_split_ands
           exact ⟨(hb1.cell (p := ⟨w.heap.size, 0, none⟩) (by first | assumption | (simp; done))).trans (by first | assumption | (simp; done)), (hb1.cell (p := ⟨w.heap.size, 1, none⟩) (by first | assumption | (simp; done))).trans (by first | assumption | (simp; done)), (hb1.cell (p := ⟨w.heap.size, 2, none⟩) (by first | assumption | (simp; done))).trans (by first | assumption | (simp; done)), Nat.lt_of_lt_of_le (by first | assumption | (simp; done)) hb1.size, blwS (by first | assumption | exact (below_alloc _ _).drew | exact below_alloc _ _) hb1 (by first | (apply Nat.le_of_lt; assumption) | simp)⟩)
        | exact ⟨(enAt_new w .brc).1, (enAt_new w .brc).2.1, (enAt_new w .brc).2.2, (by show w.heap.size < (w.alloc _).heap.size; simp), (below_alloc _ _).drew⟩)
      (first | (go_at_call 64; refine (mark_sqb _).mono ?_; rintro e w1 ⟨rfl, hb1⟩))
    all_goals go_wp2
    all_goals go_ret
    all_goals exact ⟨rfl, by first | (go_split_ands; assumption) | exact blw2 (below_alloc _ _).drew hb1⟩
  | mk m =>
    show Calls Try.prog 95 #[.string (bt [93]), .agg #[.int .i64 3, .int .i64 0, .string (bt m.txt)]] w fun x w' => x = .returned (.bool (fitB [93] (.mk m))) ∧ Below w.heap.size w w'
    cases h0 : (m.txt == [91]) with
    | true =>
      obtain rfl : m = .sqb := by revert h0; cases m <;> simp [Mk.txt]
      clear h0
      show Calls Try.prog 95 #[.string (bt [93]), .agg #[.int .i64 3, .int .i64 0, .string (bt [91])]] w fun x w' => x = .returned (.bool true) ∧ Below w.heap.size w w'
      go_enter Try.func95, Try.ntmps95
      go_wp2
      go_region_held3 (fun w' => w'.cell? ⟨w.heap.size, 0, none⟩ = some (.int .i64 3) ∧ w'.cell? ⟨w.heap.size, 1, none⟩ = some (.int .i64 0) ∧ w'.cell? ⟨w.heap.size, 2, none⟩ = some (.string (bt [91])) ∧ w.heap.size < w'.heap.size ∧ Below w.heap.size w w')
        (first
          | (go_keep; done)
          | (go_split_ands
             exact ⟨(hb1.cell (p := ⟨w.heap.size, 0, none⟩) (by first | assumption | (simp; done))).trans (by first | assumption | (simp; done)), (hb1.cell (p := ⟨w.heap.size, 1, none⟩) (by first | assumption | (simp; done))).trans (by first | assumption | (simp; done)), (hb1.cell (p := ⟨w.heap.size, 2, none⟩) (by first | assumption | (simp; done))).trans (by first | assumption | (simp; done)), Nat.lt_of_lt_of_le (by first | assumption | (simp; done)) hb1.size, blwS (by first | assumption | exact (below_alloc _ _).drew | exact below_alloc _ _) hb1 (by first | (apply Nat.le_of_lt; assumption) | simp)⟩)
          | exact ⟨(enAt_new w (.mk .sqb)).1, (enAt_new w (.mk .sqb)).2.1, (enAt_new w (.mk .sqb)).2.2, (by show w.heap.size < (w.alloc _).heap.size; simp), (below_alloc _ _).drew⟩)
        (first | (go_at_call 64; refine (mark_sqb _).mono ?_; rintro e w1 ⟨rfl, hb1⟩))
      all_goals go_wp2
      all_goals go_ret
      all_goals exact ⟨rfl, by first | (go_split_ands; assumption) | exact blw2 (below_alloc _ _).drew hb1⟩
    | false =>
      have hf : fitB [93] (.mk m) = false := by
        cases m <;> first | rfl | (exfalso; first | exact absurd h0 (by decide))
      rw [hf]
      clear hf
      revert h0
      generalize m.txt = k
      intro h0
      go_enter Try.func95, Try.ntmps95
      go_wp2
      go_region_held3 (fun w' => w'.cell? ⟨w.heap.size, 0, none⟩ = some (.int .i64 3) ∧ w'.cell? ⟨w.heap.size, 1, none⟩ = some (.int .i64 0) ∧ w'.cell? ⟨w.heap.size, 2, none⟩ = some (.string (bt k)) ∧ w.heap.size < w'.heap.size ∧ Below w.heap.size w w')
        (first
          | (go_keep; done)
          | (go_split_ands
             exact ⟨(hb1.cell (p := ⟨w.heap.size, 0, none⟩) (by first | assumption | (simp; done))).trans (by first | assumption | (simp; done)), (hb1.cell (p := ⟨w.heap.size, 1, none⟩) (by first | assumption | (simp; done))).trans (by first | assumption | (simp; done)), (hb1.cell (p := ⟨w.heap.size, 2, none⟩) (by first | assumption | (simp; done))).trans (by first | assumption | (simp; done)), Nat.lt_of_lt_of_le (by first | assumption | (simp; done)) hb1.size, blwS (by first | assumption | exact (below_alloc _ _).drew | exact below_alloc _ _) hb1 (by first | (apply Nat.le_of_lt; assumption) | simp)⟩)
          | exact ⟨(box3_new w _ _ _ _).1, (box3_new w _ _ _ _).2.1, (box3_new w _ _ _ _).2.2, (by show w.heap.size < (w.alloc _).heap.size; simp), (below_alloc _ _).drew⟩)
        (first | (go_at_call 64; refine (mark_sqb _).mono ?_; rintro e w1 ⟨rfl, hb1⟩))
      all_goals go_wp2
      all_goals go_ret
      all_goals exact ⟨rfl, by first | (go_split_ands; assumption) | exact blw2 (below_alloc _ _).drew hb1⟩

set_option maxHeartbeats 4000000 in
set_option maxRecDepth 100000 in
theorem matches_c (e : En) (w : World) : Calls Try.prog 95 #[.string (bt [125]), enV e] w fun x w' => x = .returned (.bool (fitB [125] e)) ∧ Below w.heap.size w w' := by
  cases e with
  | blk c =>
    show Calls Try.prog 95 #[.string (bt [125]), .agg #[.int .i64 1, .int .i64 c, .string (bt [])]] w fun x w' => x = .returned (.bool false) ∧ Below w.heap.size w w'
    go_enter Try.func95, Try.ntmps95
    go_wp2
    go_region_held3 (fun w' => w'.cell? ⟨w.heap.size, 0, none⟩ = some (.int .i64 1) ∧ w'.cell? ⟨w.heap.size, 1, none⟩ = some (.int .i64 c) ∧ w'.cell? ⟨w.heap.size, 2, none⟩ = some (.string (bt [])) ∧ w.heap.size < w'.heap.size ∧ Below w.heap.size w w')
      (first
        | (go_keep; done)
        | (go_split_ands
           exact ⟨(hb1.cell (p := ⟨w.heap.size, 0, none⟩) (by first | assumption | (simp; done))).trans (by first | assumption | (simp; done)), (hb1.cell (p := ⟨w.heap.size, 1, none⟩) (by first | assumption | (simp; done))).trans (by first | assumption | (simp; done)), (hb1.cell (p := ⟨w.heap.size, 2, none⟩) (by first | assumption | (simp; done))).trans (by first | assumption | (simp; done)), Nat.lt_of_lt_of_le (by first | assumption | (simp; done)) hb1.size, blwS (by first | assumption | exact (below_alloc _ _).drew | exact below_alloc _ _) hb1 (by first | (apply Nat.le_of_lt; assumption) | simp)⟩)
        | exact ⟨(enAt_new w (.blk c)).1, (enAt_new w (.blk c)).2.1, (enAt_new w (.blk c)).2.2, (by show w.heap.size < (w.alloc _).heap.size; simp), (below_alloc _ _).drew⟩)
      (first | (go_at_call 64; refine (mark_cur _).mono ?_; rintro e w1 ⟨rfl, hb1⟩) | (go_at_call 57; refine (braces_v _).mono ?_; rintro e w1 ⟨rfl, hb1⟩))
    all_goals go_wp2
    all_goals go_ret
    all_goals exact ⟨rfl, by first | (go_split_ands; assumption) | exact blw2 (below_alloc _ _).drew hb1⟩
  | brc =>
    show Calls Try.prog 95 #[.string (bt [125]), .agg #[.int .i64 2, .int .i64 0, .string (bt [])]] w fun x w' => x = .returned (.bool true) ∧ Below w.heap.size w w'
    go_enter Try.func95, Try.ntmps95
    go_wp2
    go_region_held3 (fun w' => w'.cell? ⟨w.heap.size, 0, none⟩ = some (.int .i64 2) ∧ w'.cell? ⟨w.heap.size, 1, none⟩ = some (.int .i64 0) ∧ w'.cell? ⟨w.heap.size, 2, none⟩ = some (.string (bt [])) ∧ w.heap.size < w'.heap.size ∧ Below w.heap.size w w')
      (first
        | (go_keep; done)
        | (go_split_ands
           exact ⟨(hb1.cell (p := ⟨w.heap.size, 0, none⟩) (by first | assumption | (simp; done))).trans (by first | assumption | (simp; done)), (hb1.cell (p := ⟨w.heap.size, 1, none⟩) (by first | assumption | (simp; done))).trans (by first | assumption | (simp; done)), (hb1.cell (p := ⟨w.heap.size, 2, none⟩) (by first | assumption | (simp; done))).trans (by first | assumption | (simp; done)), Nat.lt_of_lt_of_le (by first | assumption | (simp; done)) hb1.size, blwS (by first | assumption | exact (below_alloc _ _).drew | exact below_alloc _ _) hb1 (by first | (apply Nat.le_of_lt; assumption) | simp)⟩)
        | exact ⟨(enAt_new w .brc).1, (enAt_new w .brc).2.1, (enAt_new w .brc).2.2, (by show w.heap.size < (w.alloc _).heap.size; simp), (below_alloc _ _).drew⟩)
      (first | (go_at_call 64; refine (mark_cur _).mono ?_; rintro e w1 ⟨rfl, hb1⟩) | (go_at_call 57; refine (braces_v _).mono ?_; rintro e w1 ⟨rfl, hb1⟩))
    all_goals go_wp2
    all_goals go_ret
    all_goals exact ⟨rfl, by first | (go_split_ands; assumption) | exact blw2 (below_alloc _ _).drew hb1⟩
  | mk m =>
    show Calls Try.prog 95 #[.string (bt [125]), .agg #[.int .i64 3, .int .i64 0, .string (bt m.txt)]] w fun x w' => x = .returned (.bool (fitB [125] (.mk m))) ∧ Below w.heap.size w w'
    cases h0 : (m.txt == [123]) with
    | true =>
      obtain rfl : m = .cur := by revert h0; cases m <;> simp [Mk.txt]
      clear h0
      show Calls Try.prog 95 #[.string (bt [125]), .agg #[.int .i64 3, .int .i64 0, .string (bt [123])]] w fun x w' => x = .returned (.bool true) ∧ Below w.heap.size w w'
      go_enter Try.func95, Try.ntmps95
      go_wp2
      go_region_with (first | (go_at_call 64; refine (mark_cur _).mono ?_; rintro e w1 ⟨rfl, hb1⟩; have x0 : w1.cell? ⟨w.heap.size, 0, none⟩ = some (.int .i64 3) := (hb1.cell (p := ⟨w.heap.size, 0, none⟩) (by first | assumption | (simp; done))).trans (by first | assumption | (simp; done)); have x1 : w1.cell? ⟨w.heap.size, 1, none⟩ = some (.int .i64 0) := (hb1.cell (p := ⟨w.heap.size, 1, none⟩) (by first | assumption | (simp; done))).trans (by first | assumption | (simp; done)); have x2 : w1.cell? ⟨w.heap.size, 2, none⟩ = some (.string (bt [123])) := (hb1.cell (p := ⟨w.heap.size, 2, none⟩) (by first | assumption | (simp; done))).trans (by first | assumption | (simp; done)); have z1 : w.heap.size < w1.heap.size := Nat.lt_of_lt_of_le (by first | assumption | (simp; done)) hb1.size; have y1 : Below w.heap.size w w1 := blwS (by first | assumption | exact (below_alloc _ _).drew | exact below_alloc _ _) hb1 (by first | (apply Nat.le_of_lt; assumption) | simp); clear hb1) | (go_at_call 57; refine (braces_v _).mono ?_; rintro e w1 ⟨rfl, hb1⟩; have x0 : w1.cell? ⟨w.heap.size, 0, none⟩ = some (.int .i64 3) := (hb1.cell (p := ⟨w.heap.size, 0, none⟩) (by first | assumption | (simp; done))).trans (by first | assumption | (simp; done)); have x1 : w1.cell? ⟨w.heap.size, 1, none⟩ = some (.int .i64 0) := (hb1.cell (p := ⟨w.heap.size, 1, none⟩) (by first | assumption | (simp; done))).trans (by first | assumption | (simp; done)); have x2 : w1.cell? ⟨w.heap.size, 2, none⟩ = some (.string (bt [123])) := (hb1.cell (p := ⟨w.heap.size, 2, none⟩) (by first | assumption | (simp; done))).trans (by first | assumption | (simp; done)); have z1 : w.heap.size < w1.heap.size := Nat.lt_of_lt_of_le (by first | assumption | (simp; done)) hb1.size; have y1 : Below w.heap.size w w1 := blwS (by first | assumption | exact (below_alloc _ _).drew | exact below_alloc _ _) hb1 (by first | (apply Nat.le_of_lt; assumption) | simp); clear hb1))
      all_goals go_wp2
      all_goals go_ret
      all_goals exact ⟨rfl, by assumption⟩
    | false =>
      have hf : fitB [125] (.mk m) = false := by
        cases m <;> first | rfl | (exfalso; first | exact absurd h0 (by decide))
      rw [hf]
      clear hf
      revert h0
      generalize m.txt = k
      intro h0
      go_enter Try.func95, Try.ntmps95
      go_wp2
      go_region_held3 (fun w' => w'.cell? ⟨w.heap.size, 0, none⟩ = some (.int .i64 3) ∧ w'.cell? ⟨w.heap.size, 1, none⟩ = some (.int .i64 0) ∧ w'.cell? ⟨w.heap.size, 2, none⟩ = some (.string (bt k)) ∧ w.heap.size < w'.heap.size ∧ Below w.heap.size w w')
        (first
          | (go_keep; done)
          | (go_split_ands
             exact ⟨(hb1.cell (p := ⟨w.heap.size, 0, none⟩) (by first | assumption | (simp; done))).trans (by first | assumption | (simp; done)), (hb1.cell (p := ⟨w.heap.size, 1, none⟩) (by first | assumption | (simp; done))).trans (by first | assumption | (simp; done)), (hb1.cell (p := ⟨w.heap.size, 2, none⟩) (by first | assumption | (simp; done))).trans (by first | assumption | (simp; done)), Nat.lt_of_lt_of_le (by first | assumption | (simp; done)) hb1.size, blwS (by first | assumption | exact (below_alloc _ _).drew | exact below_alloc _ _) hb1 (by first | (apply Nat.le_of_lt; assumption) | simp)⟩)
          | exact ⟨(box3_new w _ _ _ _).1, (box3_new w _ _ _ _).2.1, (box3_new w _ _ _ _).2.2, (by show w.heap.size < (w.alloc _).heap.size; simp), (below_alloc _ _).drew⟩)
        (first | (go_at_call 64; refine (mark_cur _).mono ?_; rintro e w1 ⟨rfl, hb1⟩) | (go_at_call 57; refine (braces_v _).mono ?_; rintro e w1 ⟨rfl, hb1⟩))
      all_goals go_wp2
      all_goals go_ret
      all_goals exact ⟨rfl, by first | (go_split_ands; assumption) | exact blw2 (below_alloc _ _).drew hb1⟩

set_option maxHeartbeats 4000000 in
set_option maxRecDepth 100000 in
theorem matches_m (e : En) (w : World) : Calls Try.prog 95 #[.string (bt [44]), enV e] w fun x w' => x = .returned (.bool (fitB [44] e)) ∧ Below w.heap.size w w' := by
  cases e with
  | blk c =>
    show Calls Try.prog 95 #[.string (bt [44]), .agg #[.int .i64 1, .int .i64 c, .string (bt [])]] w fun x w' => x = .returned (.bool false) ∧ Below w.heap.size w w'
    go_enter Try.func95, Try.ntmps95
    go_wp2
    go_region_held3 (fun w' => w'.cell? ⟨w.heap.size, 0, none⟩ = some (.int .i64 1) ∧ w'.cell? ⟨w.heap.size, 1, none⟩ = some (.int .i64 c) ∧ w'.cell? ⟨w.heap.size, 2, none⟩ = some (.string (bt [])) ∧ w.heap.size < w'.heap.size ∧ Below w.heap.size w w')
      (first
        | (go_keep; done)
        | (go_split_ands
           exact ⟨(hb1.cell (p := ⟨w.heap.size, 0, none⟩) (by first | assumption | (simp; done))).trans (by first | assumption | (simp; done)), (hb1.cell (p := ⟨w.heap.size, 1, none⟩) (by first | assumption | (simp; done))).trans (by first | assumption | (simp; done)), (hb1.cell (p := ⟨w.heap.size, 2, none⟩) (by first | assumption | (simp; done))).trans (by first | assumption | (simp; done)), Nat.lt_of_lt_of_le (by first | assumption | (simp; done)) hb1.size, blwS (by first | assumption | exact (below_alloc _ _).drew | exact below_alloc _ _) hb1 (by first | (apply Nat.le_of_lt; assumption) | simp)⟩)
        | exact ⟨(enAt_new w (.blk c)).1, (enAt_new w (.blk c)).2.1, (enAt_new w (.blk c)).2.2, (by show w.heap.size < (w.alloc _).heap.size; simp), (below_alloc _ _).drew⟩)
      (first | (go_at_call 64; refine (mark_par _).mono ?_; rintro e w1 ⟨rfl, hb1⟩) | (go_at_call 64; refine (mark_sqb _).mono ?_; rintro e w1 ⟨rfl, hb1⟩) | (go_at_call 64; refine (mark_cur _).mono ?_; rintro e w1 ⟨rfl, hb1⟩))
    all_goals go_wp2
    all_goals go_ret
    all_goals exact ⟨rfl, by first | (go_split_ands; assumption) | exact blw2 (below_alloc _ _).drew hb1⟩
  | brc =>
    show Calls Try.prog 95 #[.string (bt [44]), .agg #[.int .i64 2, .int .i64 0, .string (bt [])]] w fun x w' => x = .returned (.bool false) ∧ Below w.heap.size w w'
    go_enter Try.func95, Try.ntmps95
    go_wp2
    go_region_held3 (fun w' => w'.cell? ⟨w.heap.size, 0, none⟩ = some (.int .i64 2) ∧ w'.cell? ⟨w.heap.size, 1, none⟩ = some (.int .i64 0) ∧ w'.cell? ⟨w.heap.size, 2, none⟩ = some (.string (bt [])) ∧ w.heap.size < w'.heap.size ∧ Below w.heap.size w w')
      (first
        | (go_keep; done)
        | (go_split_ands
           exact ⟨(hb1.cell (p := ⟨w.heap.size, 0, none⟩) (by first | assumption | (simp; done))).trans (by first | assumption | (simp; done)), (hb1.cell (p := ⟨w.heap.size, 1, none⟩) (by first | assumption | (simp; done))).trans (by first | assumption | (simp; done)), (hb1.cell (p := ⟨w.heap.size, 2, none⟩) (by first | assumption | (simp; done))).trans (by first | assumption | (simp; done)), Nat.lt_of_lt_of_le (by first | assumption | (simp; done)) hb1.size, blwS (by first | assumption | exact (below_alloc _ _).drew | exact below_alloc _ _) hb1 (by first | (apply Nat.le_of_lt; assumption) | simp)⟩)
        | exact ⟨(enAt_new w .brc).1, (enAt_new w .brc).2.1, (enAt_new w .brc).2.2, (by show w.heap.size < (w.alloc _).heap.size; simp), (below_alloc _ _).drew⟩)
      (first | (go_at_call 64; refine (mark_par _).mono ?_; rintro e w1 ⟨rfl, hb1⟩) | (go_at_call 64; refine (mark_sqb _).mono ?_; rintro e w1 ⟨rfl, hb1⟩) | (go_at_call 64; refine (mark_cur _).mono ?_; rintro e w1 ⟨rfl, hb1⟩))
    all_goals go_wp2
    all_goals go_ret
    all_goals exact ⟨rfl, by first | (go_split_ands; assumption) | exact blw2 (below_alloc _ _).drew hb1⟩
  | mk m =>
    show Calls Try.prog 95 #[.string (bt [44]), .agg #[.int .i64 3, .int .i64 0, .string (bt m.txt)]] w fun x w' => x = .returned (.bool (fitB [44] (.mk m))) ∧ Below w.heap.size w w'
    cases h0 : (m.txt == [40]) with
    | true =>
      obtain rfl : m = .par := by revert h0; cases m <;> simp [Mk.txt]
      clear h0
      show Calls Try.prog 95 #[.string (bt [44]), .agg #[.int .i64 3, .int .i64 0, .string (bt [40])]] w fun x w' => x = .returned (.bool true) ∧ Below w.heap.size w w'
      go_enter Try.func95, Try.ntmps95
      go_wp2
      go_region_with (first | (go_at_call 64; refine (mark_par _).mono ?_; rintro e w1 ⟨rfl, hb1⟩; have x0 : w1.cell? ⟨w.heap.size, 0, none⟩ = some (.int .i64 3) := (hb1.cell (p := ⟨w.heap.size, 0, none⟩) (by first | assumption | (simp; done))).trans (by first | assumption | (simp; done)); have x1 : w1.cell? ⟨w.heap.size, 1, none⟩ = some (.int .i64 0) := (hb1.cell (p := ⟨w.heap.size, 1, none⟩) (by first | assumption | (simp; done))).trans (by first | assumption | (simp; done)); have x2 : w1.cell? ⟨w.heap.size, 2, none⟩ = some (.string (bt [40])) := (hb1.cell (p := ⟨w.heap.size, 2, none⟩) (by first | assumption | (simp; done))).trans (by first | assumption | (simp; done)); have z1 : w.heap.size < w1.heap.size := Nat.lt_of_lt_of_le (by first | assumption | (simp; done)) hb1.size; have y1 : Below w.heap.size w w1 := blwS (by first | assumption | exact (below_alloc _ _).drew | exact below_alloc _ _) hb1 (by first | (apply Nat.le_of_lt; assumption) | simp); clear hb1) | (go_at_call 64; refine (mark_sqb _).mono ?_; rintro e w1 ⟨rfl, hb1⟩; have x0 : w1.cell? ⟨w.heap.size, 0, none⟩ = some (.int .i64 3) := (hb1.cell (p := ⟨w.heap.size, 0, none⟩) (by first | assumption | (simp; done))).trans (by first | assumption | (simp; done)); have x1 : w1.cell? ⟨w.heap.size, 1, none⟩ = some (.int .i64 0) := (hb1.cell (p := ⟨w.heap.size, 1, none⟩) (by first | assumption | (simp; done))).trans (by first | assumption | (simp; done)); have x2 : w1.cell? ⟨w.heap.size, 2, none⟩ = some (.string (bt [40])) := (hb1.cell (p := ⟨w.heap.size, 2, none⟩) (by first | assumption | (simp; done))).trans (by first | assumption | (simp; done)); have z1 : w.heap.size < w1.heap.size := Nat.lt_of_lt_of_le (by first | assumption | (simp; done)) hb1.size; have y1 : Below w.heap.size w w1 := blwS (by first | assumption | exact (below_alloc _ _).drew | exact below_alloc _ _) hb1 (by first | (apply Nat.le_of_lt; assumption) | simp); clear hb1) | (go_at_call 64; refine (mark_cur _).mono ?_; rintro e w1 ⟨rfl, hb1⟩; have x0 : w1.cell? ⟨w.heap.size, 0, none⟩ = some (.int .i64 3) := (hb1.cell (p := ⟨w.heap.size, 0, none⟩) (by first | assumption | (simp; done))).trans (by first | assumption | (simp; done)); have x1 : w1.cell? ⟨w.heap.size, 1, none⟩ = some (.int .i64 0) := (hb1.cell (p := ⟨w.heap.size, 1, none⟩) (by first | assumption | (simp; done))).trans (by first | assumption | (simp; done)); have x2 : w1.cell? ⟨w.heap.size, 2, none⟩ = some (.string (bt [40])) := (hb1.cell (p := ⟨w.heap.size, 2, none⟩) (by first | assumption | (simp; done))).trans (by first | assumption | (simp; done)); have z1 : w.heap.size < w1.heap.size := Nat.lt_of_lt_of_le (by first | assumption | (simp; done)) hb1.size; have y1 : Below w.heap.size w w1 := blwS (by first | assumption | exact (below_alloc _ _).drew | exact below_alloc _ _) hb1 (by first | (apply Nat.le_of_lt; assumption) | simp); clear hb1))
      all_goals go_wp2
      all_goals go_ret
      all_goals exact ⟨rfl, by assumption⟩
    | false =>
      cases h1 : (m.txt == [91]) with
      | true =>
        obtain rfl : m = .sqb := by revert h1; cases m <;> simp [Mk.txt]
        clear h0 h1
        show Calls Try.prog 95 #[.string (bt [44]), .agg #[.int .i64 3, .int .i64 0, .string (bt [91])]] w fun x w' => x = .returned (.bool true) ∧ Below w.heap.size w w'
        go_enter Try.func95, Try.ntmps95
        go_wp2
        go_region_with (first | (go_at_call 64; refine (mark_par _).mono ?_; rintro e w1 ⟨rfl, hb1⟩; have x0 : w1.cell? ⟨w.heap.size, 0, none⟩ = some (.int .i64 3) := (hb1.cell (p := ⟨w.heap.size, 0, none⟩) (by first | assumption | (simp; done))).trans (by first | assumption | (simp; done)); have x1 : w1.cell? ⟨w.heap.size, 1, none⟩ = some (.int .i64 0) := (hb1.cell (p := ⟨w.heap.size, 1, none⟩) (by first | assumption | (simp; done))).trans (by first | assumption | (simp; done)); have x2 : w1.cell? ⟨w.heap.size, 2, none⟩ = some (.string (bt [91])) := (hb1.cell (p := ⟨w.heap.size, 2, none⟩) (by first | assumption | (simp; done))).trans (by first | assumption | (simp; done)); have z1 : w.heap.size < w1.heap.size := Nat.lt_of_lt_of_le (by first | assumption | (simp; done)) hb1.size; have y1 : Below w.heap.size w w1 := blwS (by first | assumption | exact (below_alloc _ _).drew | exact below_alloc _ _) hb1 (by first | (apply Nat.le_of_lt; assumption) | simp); clear hb1) | (go_at_call 64; refine (mark_sqb _).mono ?_; rintro e w1 ⟨rfl, hb1⟩; have x0 : w1.cell? ⟨w.heap.size, 0, none⟩ = some (.int .i64 3) := (hb1.cell (p := ⟨w.heap.size, 0, none⟩) (by first | assumption | (simp; done))).trans (by first | assumption | (simp; done)); have x1 : w1.cell? ⟨w.heap.size, 1, none⟩ = some (.int .i64 0) := (hb1.cell (p := ⟨w.heap.size, 1, none⟩) (by first | assumption | (simp; done))).trans (by first | assumption | (simp; done)); have x2 : w1.cell? ⟨w.heap.size, 2, none⟩ = some (.string (bt [91])) := (hb1.cell (p := ⟨w.heap.size, 2, none⟩) (by first | assumption | (simp; done))).trans (by first | assumption | (simp; done)); have z1 : w.heap.size < w1.heap.size := Nat.lt_of_lt_of_le (by first | assumption | (simp; done)) hb1.size; have y1 : Below w.heap.size w w1 := blwS (by first | assumption | exact (below_alloc _ _).drew | exact below_alloc _ _) hb1 (by first | (apply Nat.le_of_lt; assumption) | simp); clear hb1) | (go_at_call 64; refine (mark_cur _).mono ?_; rintro e w1 ⟨rfl, hb1⟩; have x0 : w1.cell? ⟨w.heap.size, 0, none⟩ = some (.int .i64 3) := (hb1.cell (p := ⟨w.heap.size, 0, none⟩) (by first | assumption | (simp; done))).trans (by first | assumption | (simp; done)); have x1 : w1.cell? ⟨w.heap.size, 1, none⟩ = some (.int .i64 0) := (hb1.cell (p := ⟨w.heap.size, 1, none⟩) (by first | assumption | (simp; done))).trans (by first | assumption | (simp; done)); have x2 : w1.cell? ⟨w.heap.size, 2, none⟩ = some (.string (bt [91])) := (hb1.cell (p := ⟨w.heap.size, 2, none⟩) (by first | assumption | (simp; done))).trans (by first | assumption | (simp; done)); have z1 : w.heap.size < w1.heap.size := Nat.lt_of_lt_of_le (by first | assumption | (simp; done)) hb1.size; have y1 : Below w.heap.size w w1 := blwS (by first | assumption | exact (below_alloc _ _).drew | exact below_alloc _ _) hb1 (by first | (apply Nat.le_of_lt; assumption) | simp); clear hb1))
        all_goals go_wp2
        all_goals go_ret
        all_goals exact ⟨rfl, by assumption⟩
      | false =>
        cases h2 : (m.txt == [123]) with
        | true =>
          obtain rfl : m = .cur := by revert h2; cases m <;> simp [Mk.txt]
          clear h0 h1 h2
          show Calls Try.prog 95 #[.string (bt [44]), .agg #[.int .i64 3, .int .i64 0, .string (bt [123])]] w fun x w' => x = .returned (.bool true) ∧ Below w.heap.size w w'
          go_enter Try.func95, Try.ntmps95
          go_wp2
          go_region_held3 (fun w' => w'.cell? ⟨w.heap.size, 0, none⟩ = some (.int .i64 3) ∧ w'.cell? ⟨w.heap.size, 1, none⟩ = some (.int .i64 0) ∧ w'.cell? ⟨w.heap.size, 2, none⟩ = some (.string (bt [123])) ∧ w.heap.size < w'.heap.size ∧ Below w.heap.size w w')
            (first
              | (go_keep; done)
              | (go_split_ands
                 exact ⟨(hb1.cell (p := ⟨w.heap.size, 0, none⟩) (by first | assumption | (simp; done))).trans (by first | assumption | (simp; done)), (hb1.cell (p := ⟨w.heap.size, 1, none⟩) (by first | assumption | (simp; done))).trans (by first | assumption | (simp; done)), (hb1.cell (p := ⟨w.heap.size, 2, none⟩) (by first | assumption | (simp; done))).trans (by first | assumption | (simp; done)), Nat.lt_of_lt_of_le (by first | assumption | (simp; done)) hb1.size, blwS (by first | assumption | exact (below_alloc _ _).drew | exact below_alloc _ _) hb1 (by first | (apply Nat.le_of_lt; assumption) | simp)⟩)
              | exact ⟨(enAt_new w (.mk .cur)).1, (enAt_new w (.mk .cur)).2.1, (enAt_new w (.mk .cur)).2.2, (by show w.heap.size < (w.alloc _).heap.size; simp), (below_alloc _ _).drew⟩)
            (first | (go_at_call 64; refine (mark_par _).mono ?_; rintro e w1 ⟨rfl, hb1⟩) | (go_at_call 64; refine (mark_sqb _).mono ?_; rintro e w1 ⟨rfl, hb1⟩) | (go_at_call 64; refine (mark_cur _).mono ?_; rintro e w1 ⟨rfl, hb1⟩))
          all_goals go_wp2
          all_goals go_ret
          all_goals exact ⟨rfl, by first | (go_split_ands; assumption) | exact blw2 (below_alloc _ _).drew hb1⟩
        | false =>
          have hf : fitB [44] (.mk m) = false := by
            cases m <;> first | rfl | (exfalso; first | exact absurd h0 (by decide) | exact absurd h1 (by decide) | exact absurd h2 (by decide))
          rw [hf]
          clear hf
          revert h0 h1 h2
          generalize m.txt = k
          intro h0 h1 h2
          go_enter Try.func95, Try.ntmps95
          go_wp2
          go_region_held3 (fun w' => w'.cell? ⟨w.heap.size, 0, none⟩ = some (.int .i64 3) ∧ w'.cell? ⟨w.heap.size, 1, none⟩ = some (.int .i64 0) ∧ w'.cell? ⟨w.heap.size, 2, none⟩ = some (.string (bt k)) ∧ w.heap.size < w'.heap.size ∧ Below w.heap.size w w')
            (first
              | (go_keep; done)
              | (go_split_ands
                 exact ⟨(hb1.cell (p := ⟨w.heap.size, 0, none⟩) (by first | assumption | (simp; done))).trans (by first | assumption | (simp; done)), (hb1.cell (p := ⟨w.heap.size, 1, none⟩) (by first | assumption | (simp; done))).trans (by first | assumption | (simp; done)), (hb1.cell (p := ⟨w.heap.size, 2, none⟩) (by first | assumption | (simp; done))).trans (by first | assumption | (simp; done)), Nat.lt_of_lt_of_le (by first | assumption | (simp; done)) hb1.size, blwS (by first | assumption | exact (below_alloc _ _).drew | exact below_alloc _ _) hb1 (by first | (apply Nat.le_of_lt; assumption) | simp)⟩)
              | exact ⟨(box3_new w _ _ _ _).1, (box3_new w _ _ _ _).2.1, (box3_new w _ _ _ _).2.2, (by show w.heap.size < (w.alloc _).heap.size; simp), (below_alloc _ _).drew⟩)
            (first | (go_at_call 64; refine (mark_par _).mono ?_; rintro e w1 ⟨rfl, hb1⟩) | (go_at_call 64; refine (mark_sqb _).mono ?_; rintro e w1 ⟨rfl, hb1⟩) | (go_at_call 64; refine (mark_cur _).mono ?_; rintro e w1 ⟨rfl, hb1⟩))
          all_goals go_wp2
          all_goals go_ret
          all_goals exact ⟨rfl, by first | (go_split_ands; assumption) | exact blw2 (below_alloc _ _).drew hb1⟩

set_option maxHeartbeats 4000000 in
set_option maxRecDepth 100000 in
theorem matches_t (e : En) (w : World) : Calls Try.prog 95 #[.string (bt [116, 104, 101, 110]), enV e] w fun x w' => x = .returned (.bool (fitB [116, 104, 101, 110] e)) ∧ Below w.heap.size w w' := by
  cases e with
  | blk c =>
    show Calls Try.prog 95 #[.string (bt [116, 104, 101, 110]), .agg #[.int .i64 1, .int .i64 c, .string (bt [])]] w fun x w' => x = .returned (.bool false) ∧ Below w.heap.size w w'
    go_enter Try.func95, Try.ntmps95
    go_wp2
    go_region_held3 (fun w' => w'.cell? ⟨w.heap.size, 0, none⟩ = some (.int .i64 1) ∧ w'.cell? ⟨w.heap.size, 1, none⟩ = some (.int .i64 c) ∧ w'.cell? ⟨w.heap.size, 2, none⟩ = some (.string (bt [])) ∧ w.heap.size < w'.heap.size ∧ Below w.heap.size w w')
      (first
        | (go_keep; done)
        | (go_split_ands
           exact ⟨(hb1.cell (p := ⟨w.heap.size, 0, none⟩) (by first | assumption | (simp; done))).trans (by first | assumption | (simp; done)), (hb1.cell (p := ⟨w.heap.size, 1, none⟩) (by first | assumption | (simp; done))).trans (by first | assumption | (simp; done)), (hb1.cell (p := ⟨w.heap.size, 2, none⟩) (by first | assumption | (simp; done))).trans (by first | assumption | (simp; done)), Nat.lt_of_lt_of_le (by first | assumption | (simp; done)) hb1.size, blwS (by first | assumption | exact (below_alloc _ _).drew | exact below_alloc _ _) hb1 (by first | (apply Nat.le_of_lt; assumption) | simp)⟩)
        | exact ⟨(enAt_new w (.blk c)).1, (enAt_new w (.blk c)).2.1, (enAt_new w (.blk c)).2.2, (by show w.heap.size < (w.alloc _).heap.size; simp), (below_alloc _ _).drew⟩)
      (first | (go_at_call 64; refine (mark_ift _).mono ?_; rintro e w1 ⟨rfl, hb1⟩))
    all_goals go_wp2
    all_goals go_ret
    all_goals exact ⟨rfl, by first | (go_split_ands; assumption) | exact blw2 (below_alloc _ _).drew hb1⟩
  | brc =>
    show Calls Try.prog 95 #[.string (bt [116, 104, 101, 110]), .agg #[.int .i64 2, .int .i64 0, .string (bt [])]] w fun x w' => x = .returned (.bool false) ∧ Below w.heap.size w w'
    go_enter Try.func95, Try.ntmps95
    go_wp2
    go_region_held3 (fun w' => w'.cell? ⟨w.heap.size, 0, none⟩ = some (.int .i64 2) ∧ w'.cell? ⟨w.heap.size, 1, none⟩ = some (.int .i64 0) ∧ w'.cell? ⟨w.heap.size, 2, none⟩ = some (.string (bt [])) ∧ w.heap.size < w'.heap.size ∧ Below w.heap.size w w')
      (first
        | (go_keep; done)
        | (go_split_ands
           exact ⟨(hb1.cell (p := ⟨w.heap.size, 0, none⟩) (by first | assumption | (simp; done))).trans (by first | assumption | (simp; done)), (hb1.cell (p := ⟨w.heap.size, 1, none⟩) (by first | assumption | (simp; done))).trans (by first | assumption | (simp; done)), (hb1.cell (p := ⟨w.heap.size, 2, none⟩) (by first | assumption | (simp; done))).trans (by first | assumption | (simp; done)), Nat.lt_of_lt_of_le (by first | assumption | (simp; done)) hb1.size, blwS (by first | assumption | exact (below_alloc _ _).drew | exact below_alloc _ _) hb1 (by first | (apply Nat.le_of_lt; assumption) | simp)⟩)
        | exact ⟨(enAt_new w .brc).1, (enAt_new w .brc).2.1, (enAt_new w .brc).2.2, (by show w.heap.size < (w.alloc _).heap.size; simp), (below_alloc _ _).drew⟩)
      (first | (go_at_call 64; refine (mark_ift _).mono ?_; rintro e w1 ⟨rfl, hb1⟩))
    all_goals go_wp2
    all_goals go_ret
    all_goals exact ⟨rfl, by first | (go_split_ands; assumption) | exact blw2 (below_alloc _ _).drew hb1⟩
  | mk m =>
    show Calls Try.prog 95 #[.string (bt [116, 104, 101, 110]), .agg #[.int .i64 3, .int .i64 0, .string (bt m.txt)]] w fun x w' => x = .returned (.bool (fitB [116, 104, 101, 110] (.mk m))) ∧ Below w.heap.size w w'
    cases h0 : (m.txt == [105, 102]) with
    | true =>
      obtain rfl : m = .ift := by revert h0; cases m <;> simp [Mk.txt]
      clear h0
      show Calls Try.prog 95 #[.string (bt [116, 104, 101, 110]), .agg #[.int .i64 3, .int .i64 0, .string (bt [105, 102])]] w fun x w' => x = .returned (.bool true) ∧ Below w.heap.size w w'
      go_enter Try.func95, Try.ntmps95
      go_wp2
      go_region_held3 (fun w' => w'.cell? ⟨w.heap.size, 0, none⟩ = some (.int .i64 3) ∧ w'.cell? ⟨w.heap.size, 1, none⟩ = some (.int .i64 0) ∧ w'.cell? ⟨w.heap.size, 2, none⟩ = some (.string (bt [105, 102])) ∧ w.heap.size < w'.heap.size ∧ Below w.heap.size w w')
        (first
          | (go_keep; done)
          | (go_split_ands
             exact ⟨(hb1.cell (p := ⟨w.heap.size, 0, none⟩) (by first | assumption | (simp; done))).trans (by first | assumption | (simp; done)), (hb1.cell (p := ⟨w.heap.size, 1, none⟩) (by first | assumption | (simp; done))).trans (by first | assumption | (simp; done)), (hb1.cell (p := ⟨w.heap.size, 2, none⟩) (by first | assumption | (simp; done))).trans (by first | assumption | (simp; done)), Nat.lt_of_lt_of_le (by first | assumption | (simp; done)) hb1.size, blwS (by first | assumption | exact (below_alloc _ _).drew | exact below_alloc _ _) hb1 (by first | (apply Nat.le_of_lt; assumption) | simp)⟩)
          | exact ⟨(enAt_new w (.mk .ift)).1, (enAt_new w (.mk .ift)).2.1, (enAt_new w (.mk .ift)).2.2, (by show w.heap.size < (w.alloc _).heap.size; simp), (below_alloc _ _).drew⟩)
        (first | (go_at_call 64; refine (mark_ift _).mono ?_; rintro e w1 ⟨rfl, hb1⟩))
      all_goals go_wp2
      all_goals go_ret
      all_goals exact ⟨rfl, by first | (go_split_ands; assumption) | exact blw2 (below_alloc _ _).drew hb1⟩
    | false =>
      have hf : fitB [116, 104, 101, 110] (.mk m) = false := by
        cases m <;> first | rfl | (exfalso; first | exact absurd h0 (by decide))
      rw [hf]
      clear hf
      revert h0
      generalize m.txt = k
      intro h0
      go_enter Try.func95, Try.ntmps95
      go_wp2
      go_region_held3 (fun w' => w'.cell? ⟨w.heap.size, 0, none⟩ = some (.int .i64 3) ∧ w'.cell? ⟨w.heap.size, 1, none⟩ = some (.int .i64 0) ∧ w'.cell? ⟨w.heap.size, 2, none⟩ = some (.string (bt k)) ∧ w.heap.size < w'.heap.size ∧ Below w.heap.size w w')
        (first
          | (go_keep; done)
          | (go_split_ands
             exact ⟨(hb1.cell (p := ⟨w.heap.size, 0, none⟩) (by first | assumption | (simp; done))).trans (by first | assumption | (simp; done)), (hb1.cell (p := ⟨w.heap.size, 1, none⟩) (by first | assumption | (simp; done))).trans (by first | assumption | (simp; done)), (hb1.cell (p := ⟨w.heap.size, 2, none⟩) (by first | assumption | (simp; done))).trans (by first | assumption | (simp; done)), Nat.lt_of_lt_of_le (by first | assumption | (simp; done)) hb1.size, blwS (by first | assumption | exact (below_alloc _ _).drew | exact below_alloc _ _) hb1 (by first | (apply Nat.le_of_lt; assumption) | simp)⟩)
          | exact ⟨(box3_new w _ _ _ _).1, (box3_new w _ _ _ _).2.1, (box3_new w _ _ _ _).2.2, (by show w.heap.size < (w.alloc _).heap.size; simp), (below_alloc _ _).drew⟩)
        (first | (go_at_call 64; refine (mark_ift _).mono ?_; rintro e w1 ⟨rfl, hb1⟩))
      all_goals go_wp2
      all_goals go_ret
      all_goals exact ⟨rfl, by first | (go_split_ands; assumption) | exact blw2 (below_alloc _ _).drew hb1⟩

set_option maxHeartbeats 4000000 in
set_option maxRecDepth 100000 in
theorem matches_e (e : En) (w : World) : Calls Try.prog 95 #[.string (bt [101, 108, 115, 101]), enV e] w fun x w' => x = .returned (.bool (fitB [101, 108, 115, 101] e)) ∧ Below w.heap.size w w' := by
  cases e with
  | blk c =>
    show Calls Try.prog 95 #[.string (bt [101, 108, 115, 101]), .agg #[.int .i64 1, .int .i64 c, .string (bt [])]] w fun x w' => x = .returned (.bool false) ∧ Below w.heap.size w w'
    go_enter Try.func95, Try.ntmps95
    go_wp2
    go_region_held3 (fun w' => w'.cell? ⟨w.heap.size, 0, none⟩ = some (.int .i64 1) ∧ w'.cell? ⟨w.heap.size, 1, none⟩ = some (.int .i64 c) ∧ w'.cell? ⟨w.heap.size, 2, none⟩ = some (.string (bt [])) ∧ w.heap.size < w'.heap.size ∧ Below w.heap.size w w')
      (first
        | (go_keep; done)
        | (go_split_ands
           exact ⟨(hb1.cell (p := ⟨w.heap.size, 0, none⟩) (by first | assumption | (simp; done))).trans (by first | assumption | (simp; done)), (hb1.cell (p := ⟨w.heap.size, 1, none⟩) (by first | assumption | (simp; done))).trans (by first | assumption | (simp; done)), (hb1.cell (p := ⟨w.heap.size, 2, none⟩) (by first | assumption | (simp; done))).trans (by first | assumption | (simp; done)), Nat.lt_of_lt_of_le (by first | assumption | (simp; done)) hb1.size, blwS (by first | assumption | exact (below_alloc _ _).drew | exact below_alloc _ _) hb1 (by first | (apply Nat.le_of_lt; assumption) | simp)⟩)
        | exact ⟨(enAt_new w (.blk c)).1, (enAt_new w (.blk c)).2.1, (enAt_new w (.blk c)).2.2, (by show w.heap.size < (w.alloc _).heap.size; simp), (below_alloc _ _).drew⟩)
      (first | (go_at_call 64; refine (mark_thn _).mono ?_; rintro e w1 ⟨rfl, hb1⟩))
    all_goals go_wp2
    all_goals go_ret
    all_goals exact ⟨rfl, by first | (go_split_ands; assumption) | exact blw2 (below_alloc _ _).drew hb1⟩
  | brc =>
    show Calls Try.prog 95 #[.string (bt [101, 108, 115, 101]), .agg #[.int .i64 2, .int .i64 0, .string (bt [])]] w fun x w' => x = .returned (.bool false) ∧ Below w.heap.size w w'
    go_enter Try.func95, Try.ntmps95
    go_wp2
    go_region_held3 (fun w' => w'.cell? ⟨w.heap.size, 0, none⟩ = some (.int .i64 2) ∧ w'.cell? ⟨w.heap.size, 1, none⟩ = some (.int .i64 0) ∧ w'.cell? ⟨w.heap.size, 2, none⟩ = some (.string (bt [])) ∧ w.heap.size < w'.heap.size ∧ Below w.heap.size w w')
      (first
        | (go_keep; done)
        | (go_split_ands
           exact ⟨(hb1.cell (p := ⟨w.heap.size, 0, none⟩) (by first | assumption | (simp; done))).trans (by first | assumption | (simp; done)), (hb1.cell (p := ⟨w.heap.size, 1, none⟩) (by first | assumption | (simp; done))).trans (by first | assumption | (simp; done)), (hb1.cell (p := ⟨w.heap.size, 2, none⟩) (by first | assumption | (simp; done))).trans (by first | assumption | (simp; done)), Nat.lt_of_lt_of_le (by first | assumption | (simp; done)) hb1.size, blwS (by first | assumption | exact (below_alloc _ _).drew | exact below_alloc _ _) hb1 (by first | (apply Nat.le_of_lt; assumption) | simp)⟩)
        | exact ⟨(enAt_new w .brc).1, (enAt_new w .brc).2.1, (enAt_new w .brc).2.2, (by show w.heap.size < (w.alloc _).heap.size; simp), (below_alloc _ _).drew⟩)
      (first | (go_at_call 64; refine (mark_thn _).mono ?_; rintro e w1 ⟨rfl, hb1⟩))
    all_goals go_wp2
    all_goals go_ret
    all_goals exact ⟨rfl, by first | (go_split_ands; assumption) | exact blw2 (below_alloc _ _).drew hb1⟩
  | mk m =>
    show Calls Try.prog 95 #[.string (bt [101, 108, 115, 101]), .agg #[.int .i64 3, .int .i64 0, .string (bt m.txt)]] w fun x w' => x = .returned (.bool (fitB [101, 108, 115, 101] (.mk m))) ∧ Below w.heap.size w w'
    cases h0 : (m.txt == [116, 104, 101, 110]) with
    | true =>
      obtain rfl : m = .thn := by revert h0; cases m <;> simp [Mk.txt]
      clear h0
      show Calls Try.prog 95 #[.string (bt [101, 108, 115, 101]), .agg #[.int .i64 3, .int .i64 0, .string (bt [116, 104, 101, 110])]] w fun x w' => x = .returned (.bool true) ∧ Below w.heap.size w w'
      go_enter Try.func95, Try.ntmps95
      go_wp2
      go_region_held3 (fun w' => w'.cell? ⟨w.heap.size, 0, none⟩ = some (.int .i64 3) ∧ w'.cell? ⟨w.heap.size, 1, none⟩ = some (.int .i64 0) ∧ w'.cell? ⟨w.heap.size, 2, none⟩ = some (.string (bt [116, 104, 101, 110])) ∧ w.heap.size < w'.heap.size ∧ Below w.heap.size w w')
        (first
          | (go_keep; done)
          | (go_split_ands
             exact ⟨(hb1.cell (p := ⟨w.heap.size, 0, none⟩) (by first | assumption | (simp; done))).trans (by first | assumption | (simp; done)), (hb1.cell (p := ⟨w.heap.size, 1, none⟩) (by first | assumption | (simp; done))).trans (by first | assumption | (simp; done)), (hb1.cell (p := ⟨w.heap.size, 2, none⟩) (by first | assumption | (simp; done))).trans (by first | assumption | (simp; done)), Nat.lt_of_lt_of_le (by first | assumption | (simp; done)) hb1.size, blwS (by first | assumption | exact (below_alloc _ _).drew | exact below_alloc _ _) hb1 (by first | (apply Nat.le_of_lt; assumption) | simp)⟩)
          | exact ⟨(enAt_new w (.mk .thn)).1, (enAt_new w (.mk .thn)).2.1, (enAt_new w (.mk .thn)).2.2, (by show w.heap.size < (w.alloc _).heap.size; simp), (below_alloc _ _).drew⟩)
        (first | (go_at_call 64; refine (mark_thn _).mono ?_; rintro e w1 ⟨rfl, hb1⟩))
      all_goals go_wp2
      all_goals go_ret
      all_goals exact ⟨rfl, by first | (go_split_ands; assumption) | exact blw2 (below_alloc _ _).drew hb1⟩
    | false =>
      have hf : fitB [101, 108, 115, 101] (.mk m) = false := by
        cases m <;> first | rfl | (exfalso; first | exact absurd h0 (by decide))
      rw [hf]
      clear hf
      revert h0
      generalize m.txt = k
      intro h0
      go_enter Try.func95, Try.ntmps95
      go_wp2
      go_region_held3 (fun w' => w'.cell? ⟨w.heap.size, 0, none⟩ = some (.int .i64 3) ∧ w'.cell? ⟨w.heap.size, 1, none⟩ = some (.int .i64 0) ∧ w'.cell? ⟨w.heap.size, 2, none⟩ = some (.string (bt k)) ∧ w.heap.size < w'.heap.size ∧ Below w.heap.size w w')
        (first
          | (go_keep; done)
          | (go_split_ands
             exact ⟨(hb1.cell (p := ⟨w.heap.size, 0, none⟩) (by first | assumption | (simp; done))).trans (by first | assumption | (simp; done)), (hb1.cell (p := ⟨w.heap.size, 1, none⟩) (by first | assumption | (simp; done))).trans (by first | assumption | (simp; done)), (hb1.cell (p := ⟨w.heap.size, 2, none⟩) (by first | assumption | (simp; done))).trans (by first | assumption | (simp; done)), Nat.lt_of_lt_of_le (by first | assumption | (simp; done)) hb1.size, blwS (by first | assumption | exact (below_alloc _ _).drew | exact below_alloc _ _) hb1 (by first | (apply Nat.le_of_lt; assumption) | simp)⟩)
          | exact ⟨(box3_new w _ _ _ _).1, (box3_new w _ _ _ _).2.1, (box3_new w _ _ _ _).2.2, (by show w.heap.size < (w.alloc _).heap.size; simp), (below_alloc _ _).drew⟩)
        (first | (go_at_call 64; refine (mark_thn _).mono ?_; rintro e w1 ⟨rfl, hb1⟩))
      all_goals go_wp2
      all_goals go_ret
      all_goals exact ⟨rfl, by first | (go_split_ands; assumption) | exact blw2 (below_alloc _ _).drew hb1⟩

set_option maxHeartbeats 4000000 in
set_option maxRecDepth 100000 in
theorem matches_o (e : En) (w : World) : Calls Try.prog 95 #[.string (bt [111, 102]), enV e] w fun x w' => x = .returned (.bool (fitB [111, 102] e)) ∧ Below w.heap.size w w' := by
  cases e with
  | blk c =>
    show Calls Try.prog 95 #[.string (bt [111, 102]), .agg #[.int .i64 1, .int .i64 c, .string (bt [])]] w fun x w' => x = .returned (.bool false) ∧ Below w.heap.size w w'
    go_enter Try.func95, Try.ntmps95
    go_wp2
    go_region_held3 (fun w' => w'.cell? ⟨w.heap.size, 0, none⟩ = some (.int .i64 1) ∧ w'.cell? ⟨w.heap.size, 1, none⟩ = some (.int .i64 c) ∧ w'.cell? ⟨w.heap.size, 2, none⟩ = some (.string (bt [])) ∧ w.heap.size < w'.heap.size ∧ Below w.heap.size w w')
      (first
        | (go_keep; done)
        | (go_split_ands
           exact ⟨(hb1.cell (p := ⟨w.heap.size, 0, none⟩) (by first | assumption | (simp; done))).trans (by first | assumption | (simp; done)), (hb1.cell (p := ⟨w.heap.size, 1, none⟩) (by first | assumption | (simp; done))).trans (by first | assumption | (simp; done)), (hb1.cell (p := ⟨w.heap.size, 2, none⟩) (by first | assumption | (simp; done))).trans (by first | assumption | (simp; done)), Nat.lt_of_lt_of_le (by first | assumption | (simp; done)) hb1.size, blwS (by first | assumption | exact (below_alloc _ _).drew | exact below_alloc _ _) hb1 (by first | (apply Nat.le_of_lt; assumption) | simp)⟩)
        | exact ⟨(enAt_new w (.blk c)).1, (enAt_new w (.blk c)).2.1, (enAt_new w (.blk c)).2.2, (by show w.heap.size < (w.alloc _).heap.size; simp), (below_alloc _ _).drew⟩)
      (first | (go_at_call 64; refine (mark_cas _).mono ?_; rintro e w1 ⟨rfl, hb1⟩))
    all_goals go_wp2
    all_goals go_ret
    all_goals exact ⟨rfl, by first | (go_split_ands; assumption) | exact blw2 (below_alloc _ _).drew hb1⟩
  | brc =>
    show Calls Try.prog 95 #[.string (bt [111, 102]), .agg #[.int .i64 2, .int .i64 0, .string (bt [])]] w fun x w' => x = .returned (.bool false) ∧ Below w.heap.size w w'
    go_enter Try.func95, Try.ntmps95
    go_wp2
    go_region_held3 (fun w' => w'.cell? ⟨w.heap.size, 0, none⟩ = some (.int .i64 2) ∧ w'.cell? ⟨w.heap.size, 1, none⟩ = some (.int .i64 0) ∧ w'.cell? ⟨w.heap.size, 2, none⟩ = some (.string (bt [])) ∧ w.heap.size < w'.heap.size ∧ Below w.heap.size w w')
      (first
        | (go_keep; done)
        | (go_split_ands
           exact ⟨(hb1.cell (p := ⟨w.heap.size, 0, none⟩) (by first | assumption | (simp; done))).trans (by first | assumption | (simp; done)), (hb1.cell (p := ⟨w.heap.size, 1, none⟩) (by first | assumption | (simp; done))).trans (by first | assumption | (simp; done)), (hb1.cell (p := ⟨w.heap.size, 2, none⟩) (by first | assumption | (simp; done))).trans (by first | assumption | (simp; done)), Nat.lt_of_lt_of_le (by first | assumption | (simp; done)) hb1.size, blwS (by first | assumption | exact (below_alloc _ _).drew | exact below_alloc _ _) hb1 (by first | (apply Nat.le_of_lt; assumption) | simp)⟩)
        | exact ⟨(enAt_new w .brc).1, (enAt_new w .brc).2.1, (enAt_new w .brc).2.2, (by show w.heap.size < (w.alloc _).heap.size; simp), (below_alloc _ _).drew⟩)
      (first | (go_at_call 64; refine (mark_cas _).mono ?_; rintro e w1 ⟨rfl, hb1⟩))
    all_goals go_wp2
    all_goals go_ret
    all_goals exact ⟨rfl, by first | (go_split_ands; assumption) | exact blw2 (below_alloc _ _).drew hb1⟩
  | mk m =>
    show Calls Try.prog 95 #[.string (bt [111, 102]), .agg #[.int .i64 3, .int .i64 0, .string (bt m.txt)]] w fun x w' => x = .returned (.bool (fitB [111, 102] (.mk m))) ∧ Below w.heap.size w w'
    cases h0 : (m.txt == [99, 97, 115, 101]) with
    | true =>
      obtain rfl : m = .cas := by revert h0; cases m <;> simp [Mk.txt]
      clear h0
      show Calls Try.prog 95 #[.string (bt [111, 102]), .agg #[.int .i64 3, .int .i64 0, .string (bt [99, 97, 115, 101])]] w fun x w' => x = .returned (.bool true) ∧ Below w.heap.size w w'
      go_enter Try.func95, Try.ntmps95
      go_wp2
      go_region_held3 (fun w' => w'.cell? ⟨w.heap.size, 0, none⟩ = some (.int .i64 3) ∧ w'.cell? ⟨w.heap.size, 1, none⟩ = some (.int .i64 0) ∧ w'.cell? ⟨w.heap.size, 2, none⟩ = some (.string (bt [99, 97, 115, 101])) ∧ w.heap.size < w'.heap.size ∧ Below w.heap.size w w')
        (first
          | (go_keep; done)
          | (go_split_ands
             exact ⟨(hb1.cell (p := ⟨w.heap.size, 0, none⟩) (by first | assumption | (simp; done))).trans (by first | assumption | (simp; done)), (hb1.cell (p := ⟨w.heap.size, 1, none⟩) (by first | assumption | (simp; done))).trans (by first | assumption | (simp; done)), (hb1.cell (p := ⟨w.heap.size, 2, none⟩) (by first | assumption | (simp; done))).trans (by first | assumption | (simp; done)), Nat.lt_of_lt_of_le (by first | assumption | (simp; done)) hb1.size, blwS (by first | assumption | exact (below_alloc _ _).drew | exact below_alloc _ _) hb1 (by first | (apply Nat.le_of_lt; assumption) | simp)⟩)
          | exact ⟨(enAt_new w (.mk .cas)).1, (enAt_new w (.mk .cas)).2.1, (enAt_new w (.mk .cas)).2.2, (by show w.heap.size < (w.alloc _).heap.size; simp), (below_alloc _ _).drew⟩)
        (first | (go_at_call 64; refine (mark_cas _).mono ?_; rintro e w1 ⟨rfl, hb1⟩))
      all_goals go_wp2
      all_goals go_ret
      all_goals exact ⟨rfl, by first | (go_split_ands; assumption) | exact blw2 (below_alloc _ _).drew hb1⟩
    | false =>
      have hf : fitB [111, 102] (.mk m) = false := by
        cases m <;> first | rfl | (exfalso; first | exact absurd h0 (by decide))
      rw [hf]
      clear hf
      revert h0
      generalize m.txt = k
      intro h0
      go_enter Try.func95, Try.ntmps95
      go_wp2
      go_region_held3 (fun w' => w'.cell? ⟨w.heap.size, 0, none⟩ = some (.int .i64 3) ∧ w'.cell? ⟨w.heap.size, 1, none⟩ = some (.int .i64 0) ∧ w'.cell? ⟨w.heap.size, 2, none⟩ = some (.string (bt k)) ∧ w.heap.size < w'.heap.size ∧ Below w.heap.size w w')
        (first
          | (go_keep; done)
          | (go_split_ands
             exact ⟨(hb1.cell (p := ⟨w.heap.size, 0, none⟩) (by first | assumption | (simp; done))).trans (by first | assumption | (simp; done)), (hb1.cell (p := ⟨w.heap.size, 1, none⟩) (by first | assumption | (simp; done))).trans (by first | assumption | (simp; done)), (hb1.cell (p := ⟨w.heap.size, 2, none⟩) (by first | assumption | (simp; done))).trans (by first | assumption | (simp; done)), Nat.lt_of_lt_of_le (by first | assumption | (simp; done)) hb1.size, blwS (by first | assumption | exact (below_alloc _ _).drew | exact below_alloc _ _) hb1 (by first | (apply Nat.le_of_lt; assumption) | simp)⟩)
          | exact ⟨(box3_new w _ _ _ _).1, (box3_new w _ _ _ _).2.1, (box3_new w _ _ _ _).2.2, (by show w.heap.size < (w.alloc _).heap.size; simp), (below_alloc _ _).drew⟩)
        (first | (go_at_call 64; refine (mark_cas _).mono ?_; rintro e w1 ⟨rfl, hb1⟩))
      all_goals go_wp2
      all_goals go_ret
      all_goals exact ⟨rfl, by first | (go_split_ands; assumption) | exact blw2 (below_alloc _ _).drew hb1⟩

set_option maxHeartbeats 4000000 in
set_option maxRecDepth 100000 in
theorem matches_i (e : En) (w : World) : Calls Try.prog 95 #[.string (bt [105, 110]), enV e] w fun x w' => x = .returned (.bool (fitB [105, 110] e)) ∧ Below w.heap.size w w' := by
  cases e with
  | blk c =>
    show Calls Try.prog 95 #[.string (bt [105, 110]), .agg #[.int .i64 1, .int .i64 c, .string (bt [])]] w fun x w' => x = .returned (.bool false) ∧ Below w.heap.size w w'
    go_enter Try.func95, Try.ntmps95
    go_wp2
    go_region_held3 (fun w' => w'.cell? ⟨w.heap.size, 0, none⟩ = some (.int .i64 1) ∧ w'.cell? ⟨w.heap.size, 1, none⟩ = some (.int .i64 c) ∧ w'.cell? ⟨w.heap.size, 2, none⟩ = some (.string (bt [])) ∧ w.heap.size < w'.heap.size ∧ Below w.heap.size w w')
      (first
        | (go_keep; done)
        | (go_split_ands
           exact ⟨(hb1.cell (p := ⟨w.heap.size, 0, none⟩) (by first | assumption | (simp; done))).trans (by first | assumption | (simp; done)), (hb1.cell (p := ⟨w.heap.size, 1, none⟩) (by first | assumption | (simp; done))).trans (by first | assumption | (simp; done)), (hb1.cell (p := ⟨w.heap.size, 2, none⟩) (by first | assumption | (simp; done))).trans (by first | assumption | (simp; done)), Nat.lt_of_lt_of_le (by first | assumption | (simp; done)) hb1.size, blwS (by first | assumption | exact (below_alloc _ _).drew | exact below_alloc _ _) hb1 (by first | (apply Nat.le_of_lt; assumption) | simp)⟩)
        | exact ⟨(enAt_new w (.blk c)).1, (enAt_new w (.blk c)).2.1, (enAt_new w (.blk c)).2.2, (by show w.heap.size < (w.alloc _).heap.size; simp), (below_alloc _ _).drew⟩)
      (first | (go_at_call 64; refine (mark_lt _).mono ?_; rintro e w1 ⟨rfl, hb1⟩))
    all_goals go_wp2
    all_goals go_ret
    all_goals exact ⟨rfl, by first | (go_split_ands; assumption) | exact blw2 (below_alloc _ _).drew hb1⟩
  | brc =>
    show Calls Try.prog 95 #[.string (bt [105, 110]), .agg #[.int .i64 2, .int .i64 0, .string (bt [])]] w fun x w' => x = .returned (.bool false) ∧ Below w.heap.size w w'
    go_enter Try.func95, Try.ntmps95
    go_wp2
    go_region_held3 (fun w' => w'.cell? ⟨w.heap.size, 0, none⟩ = some (.int .i64 2) ∧ w'.cell? ⟨w.heap.size, 1, none⟩ = some (.int .i64 0) ∧ w'.cell? ⟨w.heap.size, 2, none⟩ = some (.string (bt [])) ∧ w.heap.size < w'.heap.size ∧ Below w.heap.size w w')
      (first
        | (go_keep; done)
        | (go_split_ands
           exact ⟨(hb1.cell (p := ⟨w.heap.size, 0, none⟩) (by first | assumption | (simp; done))).trans (by first | assumption | (simp; done)), (hb1.cell (p := ⟨w.heap.size, 1, none⟩) (by first | assumption | (simp; done))).trans (by first | assumption | (simp; done)), (hb1.cell (p := ⟨w.heap.size, 2, none⟩) (by first | assumption | (simp; done))).trans (by first | assumption | (simp; done)), Nat.lt_of_lt_of_le (by first | assumption | (simp; done)) hb1.size, blwS (by first | assumption | exact (below_alloc _ _).drew | exact below_alloc _ _) hb1 (by first | (apply Nat.le_of_lt; assumption) | simp)⟩)
        | exact ⟨(enAt_new w .brc).1, (enAt_new w .brc).2.1, (enAt_new w .brc).2.2, (by show w.heap.size < (w.alloc _).heap.size; simp), (below_alloc _ _).drew⟩)
      (first | (go_at_call 64; refine (mark_lt _).mono ?_; rintro e w1 ⟨rfl, hb1⟩))
    all_goals go_wp2
    all_goals go_ret
    all_goals exact ⟨rfl, by first | (go_split_ands; assumption) | exact blw2 (below_alloc _ _).drew hb1⟩
  | mk m =>
    show Calls Try.prog 95 #[.string (bt [105, 110]), .agg #[.int .i64 3, .int .i64 0, .string (bt m.txt)]] w fun x w' => x = .returned (.bool (fitB [105, 110] (.mk m))) ∧ Below w.heap.size w w'
    cases h0 : (m.txt == [108, 101, 116]) with
    | true =>
      obtain rfl : m = .lt := by revert h0; cases m <;> simp [Mk.txt]
      clear h0
      show Calls Try.prog 95 #[.string (bt [105, 110]), .agg #[.int .i64 3, .int .i64 0, .string (bt [108, 101, 116])]] w fun x w' => x = .returned (.bool true) ∧ Below w.heap.size w w'
      go_enter Try.func95, Try.ntmps95
      go_wp2
      go_region_held3 (fun w' => w'.cell? ⟨w.heap.size, 0, none⟩ = some (.int .i64 3) ∧ w'.cell? ⟨w.heap.size, 1, none⟩ = some (.int .i64 0) ∧ w'.cell? ⟨w.heap.size, 2, none⟩ = some (.string (bt [108, 101, 116])) ∧ w.heap.size < w'.heap.size ∧ Below w.heap.size w w')
        (first
          | (go_keep; done)
          | (go_split_ands
             exact ⟨(hb1.cell (p := ⟨w.heap.size, 0, none⟩) (by first | assumption | (simp; done))).trans (by first | assumption | (simp; done)), (hb1.cell (p := ⟨w.heap.size, 1, none⟩) (by first | assumption | (simp; done))).trans (by first | assumption | (simp; done)), (hb1.cell (p := ⟨w.heap.size, 2, none⟩) (by first | assumption | (simp; done))).trans (by first | assumption | (simp; done)), Nat.lt_of_lt_of_le (by first | assumption | (simp; done)) hb1.size, blwS (by first | assumption | exact (below_alloc _ _).drew | exact below_alloc _ _) hb1 (by first | (apply Nat.le_of_lt; assumption) | simp)⟩)
          | exact ⟨(enAt_new w (.mk .lt)).1, (enAt_new w (.mk .lt)).2.1, (enAt_new w (.mk .lt)).2.2, (by show w.heap.size < (w.alloc _).heap.size; simp), (below_alloc _ _).drew⟩)
        (first | (go_at_call 64; refine (mark_lt _).mono ?_; rintro e w1 ⟨rfl, hb1⟩))
      all_goals go_wp2
      all_goals go_ret
      all_goals exact ⟨rfl, by first | (go_split_ands; assumption) | exact blw2 (below_alloc _ _).drew hb1⟩
    | false =>
      have hf : fitB [105, 110] (.mk m) = false := by
        cases m <;> first | rfl | (exfalso; first | exact absurd h0 (by decide))
      rw [hf]
      clear hf
      revert h0
      generalize m.txt = k
      intro h0
      go_enter Try.func95, Try.ntmps95
      go_wp2
      go_region_held3 (fun w' => w'.cell? ⟨w.heap.size, 0, none⟩ = some (.int .i64 3) ∧ w'.cell? ⟨w.heap.size, 1, none⟩ = some (.int .i64 0) ∧ w'.cell? ⟨w.heap.size, 2, none⟩ = some (.string (bt k)) ∧ w.heap.size < w'.heap.size ∧ Below w.heap.size w w')
        (first
          | (go_keep; done)
          | (go_split_ands
             exact ⟨(hb1.cell (p := ⟨w.heap.size, 0, none⟩) (by first | assumption | (simp; done))).trans (by first | assumption | (simp; done)), (hb1.cell (p := ⟨w.heap.size, 1, none⟩) (by first | assumption | (simp; done))).trans (by first | assumption | (simp; done)), (hb1.cell (p := ⟨w.heap.size, 2, none⟩) (by first | assumption | (simp; done))).trans (by first | assumption | (simp; done)), Nat.lt_of_lt_of_le (by first | assumption | (simp; done)) hb1.size, blwS (by first | assumption | exact (below_alloc _ _).drew | exact below_alloc _ _) hb1 (by first | (apply Nat.le_of_lt; assumption) | simp)⟩)
          | exact ⟨(box3_new w _ _ _ _).1, (box3_new w _ _ _ _).2.1, (box3_new w _ _ _ _).2.2, (by show w.heap.size < (w.alloc _).heap.size; simp), (below_alloc _ _).drew⟩)
        (first | (go_at_call 64; refine (mark_lt _).mono ?_; rintro e w1 ⟨rfl, hb1⟩))
      all_goals go_wp2
      all_goals go_ret
      all_goals exact ⟨rfl, by first | (go_split_ands; assumption) | exact blw2 (below_alloc _ _).drew hb1⟩

theorem matches_any (x : List UInt8) (e : En) (w : World) (hx : oneB (cloS ++ cloW) x = true) : Calls Try.prog 95 #[.string (bt x), enV e] w fun y w' => y = .returned (.bool (fitB x e)) ∧ Below w.heap.size w w' := by
  have h : x = [41] ∨ x = [93] ∨ x = [125] ∨ x = [44] ∨ x = [116, 104, 101, 110] ∨ x = [101, 108, 115, 101] ∨ x = [111, 102] ∨ x = [105, 110] := by
    simpa [oneB, cloS, cloW] using hx
  rcases h with rfl | rfl | rfl | rfl | rfl | rfl | rfl | rfl
  · exact matches_p e w
  · exact matches_s e w
  · exact matches_c e w
  · exact matches_m e w
  · exact matches_t e w
  · exact matches_e e w
  · exact matches_o e w
  · exact matches_i e w
end Go.Proofs.Ytbjbmehkcfpahaa
