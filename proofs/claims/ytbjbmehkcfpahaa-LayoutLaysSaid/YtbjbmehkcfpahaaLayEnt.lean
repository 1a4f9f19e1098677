/- Contracts of layout's block, braces, mark, isBlock, areLoose and matches: what was there before stays. No condition but short lists. -/
import Derived.Test.YtbjbmehkcfpahaaLayAt
namespace Go.Proofs.Ytbjbmehkcfpahaa
open Go.RowKit Lx
attribute [local go_sem] bt_size bt_get bt_list bt_toList bt_drop bt_take
attribute [local go_sem ↓] Go.wp_at_zero Go.wp_at_succ

set_option maxHeartbeats 400000 in
set_option maxRecDepth 100000 in
theorem block_any (c : Int) (w : World) : Calls Try.prog 93 #[.int .i64 c] w fun e w' => e = .returned (enV (.blk c)) ∧ Below w.heap.size w w' := by
  go_enter Try.func93, Try.ntmps93
  go_wp2
  refine bodyPost_ret (v := enV (.blk c)) (by simp [results, go_sem, enV, enS, enC, enK]; rfl) rfl ⟨rfl, ?_⟩
  exact below_alloc _ _

set_option maxHeartbeats 400000 in
set_option maxRecDepth 100000 in
theorem braces_any (w : World) : Calls Try.prog 57 #[] w fun e w' => e = .returned (enV .brc) ∧ Below w.heap.size w w' := by
  go_enter Try.func57, Try.ntmps57
  go_wp2
  refine bodyPost_ret (v := enV .brc) (by simp [results, go_sem, enV, enS, enC, enK]; rfl) rfl ⟨rfl, ?_⟩
  exact below_alloc _ _

set_option maxHeartbeats 400000 in
set_option maxRecDepth 100000 in
theorem mark_any (m : Mk) (w : World) : Calls Try.prog 64 #[.string (bt m.txt)] w fun e w' => e = .returned (enV (.mk m)) ∧ Below w.heap.size w w' := by
  generalize hx : m.txt = x
  go_enter Try.func64, Try.ntmps64
  go_wp2
  refine bodyPost_ret (v := enV (.mk m)) (by simp [results, go_sem, enV, enS, enC, enK, hx]) rfl ⟨rfl, ?_⟩
  exact below_alloc _ _

/-- An entry's three cells. -/
def EnAt (w : World) (b o : Nat) (e : En) : Prop := w.cell? ⟨b, o, none⟩ = some (.int .i64 (enS e)) ∧ w.cell? ⟨b, o + 1, none⟩ = some (.int .i64 (enC e)) ∧ w.cell? ⟨b, o + 2, none⟩ = some (.string (bt (enK e)))
def boxE (e : En) : Obj := .cells #[.int .i64 (enS e), .int .i64 (enC e), .string (bt (enK e))] 88
theorem enAt_new (w : World) (e : En) : EnAt (w.alloc (boxE e)) w.heap.size 0 e := by
  refine ⟨?_, ?_, ?_⟩ <;> simp [boxE]
theorem EnAt.same {w w' : World} {b o : Nat} {e : En} (h : EnAt w b o e) (hb : w'.heap[b]? = w.heap[b]?) : EnAt w' b o e := by
  have k : ∀ o, w'.cell? ⟨b, o, none⟩ = w.cell? ⟨b, o, none⟩ := fun o => World.cell?_of_block (a := ⟨b, o, none⟩) hb
  unfold EnAt
  rw [k, k, k]
  exact h
theorem EnAt.below {w w' : World} {b o B : Nat} {e : En} (h : EnAt w b o e) (hb : Below B w w') (hlt : b < B) : EnAt w' b o e := h.same (hb.block b hlt)

def eqB (e : En) (c : Int) : Bool := (enS e == 1) && (enC e == c) && (enK e == [])

set_option maxHeartbeats 1000000 in
set_option maxRecDepth 100000 in
theorem isBlock_any (e : En) (w : World) : Calls Try.prog 89 #[enV e] w fun x w' => x = .returned (.bool e.isBlk) ∧ Below w.heap.size w w' := by
  have he : (e.isBlk = true ∧ enS e = 1 ∧ enK e = []) ∨ (e.isBlk = false ∧ (enS e == 1) = false) := by
    cases e
    · exact .inl ⟨rfl, rfl, rfl⟩
    · exact .inr ⟨rfl, rfl⟩
    · exact .inr ⟨rfl, rfl⟩
  obtain ⟨hb, hx⟩ : ∃ b, b = e.isBlk := ⟨_, rfl⟩
  unfold enV
  rw [← hx] at he ⊢
  have HX := Lib.hid hx
  clear hx
  generalize enC e = c at *
  rcases he with ⟨rfl, h1, h2⟩ | ⟨rfl, h1⟩
  · rw [h1, h2]
    clear h1 h2
    go_enter Try.func89, Try.ntmps89
    go_wp2
    go_region_held3 (fun w' => w'.cell? ⟨w.heap.size, 0, none⟩ = some (.int .i64 1) ∧ w'.cell? ⟨w.heap.size, 1, none⟩ = some (.int .i64 c) ∧ w'.cell? ⟨w.heap.size, 2, none⟩ = some (.string (bt [])))
      (first
        | go_keep
        | (go_split_ands
           exact ⟨(hb1.cell (p := ⟨w.heap.size, 0, none⟩) (by simp)).trans (by simp), (hb1.cell (p := ⟨w.heap.size, 1, none⟩) (by simp)).trans (by simp), (hb1.cell (p := ⟨w.heap.size, 2, none⟩) (by simp)).trans (by simp)⟩))
      ((go_at_call 93; refine (block_any _ _).mono ?_; rintro e w1 ⟨rfl, hb1⟩; unfold enV enS enC enK))
    all_goals go_wp2
    all_goals go_ret
    all_goals exact ⟨rfl, blw2 (below_alloc _ _).drew hb1⟩
  · generalize enS e = s at *
    generalize enK e = k at *
    go_enter Try.func89, Try.ntmps89
    go_wp2
    go_region_held3 (fun w' => w'.cell? ⟨w.heap.size, 0, none⟩ = some (.int .i64 s) ∧ w'.cell? ⟨w.heap.size, 1, none⟩ = some (.int .i64 c) ∧ w'.cell? ⟨w.heap.size, 2, none⟩ = some (.string (bt k)))
      (first
        | go_keep
        | (go_split_ands
           exact ⟨(hb1.cell (p := ⟨w.heap.size, 0, none⟩) (by simp)).trans (by simp), (hb1.cell (p := ⟨w.heap.size, 1, none⟩) (by simp)).trans (by simp), (hb1.cell (p := ⟨w.heap.size, 2, none⟩) (by simp)).trans (by simp)⟩))
      ((go_at_call 93; refine (block_any _ _).mono ?_; rintro e w1 ⟨rfl, hb1⟩; unfold enV enS enC enK))
    all_goals go_wp2
    all_goals go_ret
    all_goals exact ⟨rfl, blw2 (below_alloc _ _).drew hb1⟩
end Go.Proofs.Ytbjbmehkcfpahaa
