/- The contract of layout's areLoose: it says whether all entries of a slice are loose; what was there before stays. No condition but a bound on the slice. -/
import Derived.Test.YtbjbmehkcfpahaaLayMatch
import Derived.Deep.RegionWith
namespace Go.Proofs.Ytbjbmehkcfpahaa
open Go.RowKit Lx
attribute [local go_sem] bt_size bt_get bt_list bt_toList bt_drop bt_take
attribute [local go_sem ↓] Go.wp_at_zero Go.wp_at_succ

theorem isBlock_mk (m : Mk) (K : List UInt8) (hK : K = m.txt) (w : World) : Calls Try.prog 89 #[.agg #[.int .i64 3, .int .i64 0, .string (bt K)]] w fun x w' => x = .returned (.bool (En.mk m).isBlk) ∧ Below w.heap.size w w' := by
  subst hK
  exact isBlock_any (.mk m) w

def LooseRel (w : World) (es : List En) (i : Value) (wr : World) : Prop := ∃ k : Nat, k ≤ es.length ∧ i = .int .i64 k ∧ (es.take k).all En.loose = true ∧ Below w.heap.size w wr

theorem loose_snoc (es : List En) (k : Nat) (h : k < es.length) (ha : (es.take k).all En.loose = true) (hp : es[k].loose = true) : (es.take (k + 1)).all En.loose = true := by
  rw [List.take_succ_eq_append_getElem h, List.all_append, ha]
  simp [hp]
theorem loose_no (es : List En) (k : Nat) (h : k < es.length) (hp : es[k].loose = false) : es.all En.loose = false := by
  rw [List.all_eq_false]
  exact ⟨es[k], List.getElem_mem h, by rw [hp]; exact Bool.false_ne_true⟩

set_option maxHeartbeats 400000 in
set_option maxRecDepth 100000 in
theorem areLoose_nil (ao : Option Addr) (cap : Nat) (w : World) :
    Calls Try.prog 90 #[.slice ao 0 cap] w fun e w' => e = .returned (.bool true) ∧ w = w' := by
  go_enter Try.func90, Try.ntmps90
  go_wp2
  refine wp_loop_rounds 1 ?_
  rw [rounds_succ]
  go_wp2
  go_ret
  exact ⟨rfl, rfl⟩

set_option maxHeartbeats 4000000 in
set_option maxRecDepth 100000 in
theorem areLoose_any (es : List En) (b off cap : Nat) (w : World) (hn : es.length ≤ 10000000) (hb : b < w.heap.size)
    (hc : ∀ k (h : k < es.length), EnAt w b (off + k * 3) es[k]) :
    Calls Try.prog 90 #[.slice (some ⟨b, off, none⟩) es.length cap] w fun e w' => e = .returned (.bool (es.all En.loose)) ∧ Below w.heap.size w w' := by
  have HC := Lib.hid hc
  clear hc
  go_enter Try.func90, Try.ntmps90
  go_wp2
  go_loopw [7] (fun i wr => LooseRel w es i wr) (fun i _ => es.length - (intOf i).toNat)
  case atStart => exact ⟨0, Nat.zero_le _, rfl, rfl, Below.refl _ _⟩
  case round =>
    obtain ⟨k, hk, rfl, hall, hbel⟩ := hrel
    have H := Lib.hid hall
    have HB := Lib.hid hbel
    clear hall hbel
    by_cases hlt : k < es.length
    · obtain ⟨a0, a1, a2⟩ := (HC.out k hlt).below HB.out hb
      have HL := Lib.hid (fun hp : es[k].loose = true => loose_snoc es k hlt H.out hp)
      have HN := Lib.hid (fun hp : es[k].loose = false => loose_no es k hlt hp)
      revert HL HN a0 a1 a2
      generalize es[k] = e
      intro a0 a1 a2 HL HN
      cases e with
      | blk c =>
        go_wp2
        go_region_with ((go_at_call 89; refine (isBlock_any (.blk c) _).mono ?_; rintro e w1 ⟨rfl, hb1⟩; unfold En.isBlk; have y1 : Below w.heap.size w w1 := blwS (HB.out.alloc HB.out.size _).drew hb1 (by have := HB.out.size; show w.heap.size ≤ (wr.alloc _).heap.size; simp; omega); clear hb1))
        all_goals go_wp2
        all_goals go_roundw
        all_goals first
          | (case rel => exact ⟨k + 1, by omega, by go_num, HL.out rfl, by assumption⟩)
          | (case measure => simp [intOf]; omega)
      | brc =>
        unfold enS at a0
        unfold enC at a1
        unfold enK at a2
        have HF := Lib.hid (show En.brc.loose = false from rfl)
        go_wp2
        go_region_with (first | (go_at_call 89; refine (isBlock_any .brc _).mono ?_; rintro e w1 ⟨rfl, hb1⟩; unfold En.isBlk; have x0 : w1.cell? ⟨wr.heap.size, 0, none⟩ = some (.int .i64 2) := (hb1.cell (p := ⟨wr.heap.size, 0, none⟩) (by simp)).trans (by simp); have x1 : w1.cell? ⟨wr.heap.size, 1, none⟩ = some (.int .i64 0) := (hb1.cell (p := ⟨wr.heap.size, 1, none⟩) (by simp)).trans (by simp); have x2 : w1.cell? ⟨wr.heap.size, 2, none⟩ = some (.string (bt [])) := (hb1.cell (p := ⟨wr.heap.size, 2, none⟩) (by simp)).trans (by simp); have y1 : Below w.heap.size w w1 := blwS (HB.out.alloc HB.out.size _).drew hb1 (by have := HB.out.size; show w.heap.size ≤ (wr.alloc _).heap.size; simp; omega); have y0 : w.heap.size ≤ w1.heap.size := y1.size; have y3 : wr.heap.size < w1.heap.size := Nat.lt_of_lt_of_le (by simp) hb1.size; clear hb1) | (go_at_call 64; refine (mark_lt _).mono ?_; rintro e w2 ⟨rfl, hb2⟩; have x0 : w2.cell? ⟨wr.heap.size, 0, none⟩ = some (.int .i64 2) := (hb2.cell (p := ⟨wr.heap.size, 0, none⟩) y3).trans x0; have x1 : w2.cell? ⟨wr.heap.size, 1, none⟩ = some (.int .i64 0) := (hb2.cell (p := ⟨wr.heap.size, 1, none⟩) y3).trans x1; have x2 : w2.cell? ⟨wr.heap.size, 2, none⟩ = some (.string (bt [])) := (hb2.cell (p := ⟨wr.heap.size, 2, none⟩) y3).trans x2; have y2 : Below w.heap.size w w2 := blwS y1 hb2 y0; clear hb2))
        all_goals go_wp2
        all_goals go_ret
        all_goals exact ⟨ret_bool (HN.out HF.out).symm, by assumption⟩
      | mk m =>
        replace a0 : wr.cell? ⟨b, off + k * 3, none⟩ = some (.int .i64 3) := a0
        replace a1 : wr.cell? ⟨b, off + k * 3 + 1, none⟩ = some (.int .i64 0) := a1
        replace a2 : wr.cell? ⟨b, off + k * 3 + 2, none⟩ = some (.string (bt m.txt)) := a2
        by_cases hm : m = .lt
        · subst hm
          replace a2 : wr.cell? ⟨b, off + k * 3 + 2, none⟩ = some (.string (bt [108, 101, 116])) := a2
          go_wp2
          go_region_with (first | (go_at_call 89; refine (isBlock_any (.mk .lt) _).mono ?_; rintro e w1 ⟨rfl, hb1⟩; unfold En.isBlk; have x0 : w1.cell? ⟨wr.heap.size, 0, none⟩ = some (.int .i64 3) := (hb1.cell (p := ⟨wr.heap.size, 0, none⟩) (by simp)).trans (by simp); have x1 : w1.cell? ⟨wr.heap.size, 1, none⟩ = some (.int .i64 0) := (hb1.cell (p := ⟨wr.heap.size, 1, none⟩) (by simp)).trans (by simp); have x2 : w1.cell? ⟨wr.heap.size, 2, none⟩ = some (.string (bt [108, 101, 116])) := (hb1.cell (p := ⟨wr.heap.size, 2, none⟩) (by simp)).trans (by simp); have y1 : Below w.heap.size w w1 := blwS (HB.out.alloc HB.out.size _).drew hb1 (by have := HB.out.size; show w.heap.size ≤ (wr.alloc _).heap.size; simp; omega); have y0 : w.heap.size ≤ w1.heap.size := y1.size; have y3 : wr.heap.size < w1.heap.size := Nat.lt_of_lt_of_le (by simp) hb1.size; clear hb1) | (go_at_call 64; refine (mark_lt _).mono ?_; rintro e w2 ⟨rfl, hb2⟩; have x0 : w2.cell? ⟨wr.heap.size, 0, none⟩ = some (.int .i64 3) := (hb2.cell (p := ⟨wr.heap.size, 0, none⟩) y3).trans x0; have x1 : w2.cell? ⟨wr.heap.size, 1, none⟩ = some (.int .i64 0) := (hb2.cell (p := ⟨wr.heap.size, 1, none⟩) y3).trans x1; have x2 : w2.cell? ⟨wr.heap.size, 2, none⟩ = some (.string (bt [108, 101, 116])) := (hb2.cell (p := ⟨wr.heap.size, 2, none⟩) y3).trans x2; have y2 : Below w.heap.size w w2 := blwS y1 hb2 y0; clear hb2))
          all_goals go_wp2
          all_goals go_roundw
          all_goals first
            | (case rel => exact ⟨k + 1, by omega, by go_num, HL.out rfl, by assumption⟩)
            | (case measure => simp [intOf]; omega)
        · have HF := Lib.hid (show (En.mk m).loose = false by cases m <;> first | rfl | exact absurd rfl hm)
          have ht : (m.txt == [108, 101, 116]) = false := by cases m <;> first | rfl | exact absurd rfl hm
          clear hm
          obtain ⟨K, hK⟩ : ∃ K, K = m.txt := ⟨_, rfl⟩
          rw [← hK] at a2 ht
          have HK := Lib.hid hK
          clear hK
          go_wp2
          go_region_with (first | (go_at_call 89; refine (isBlock_mk m K HK.out _).mono ?_; rintro e w1 ⟨rfl, hb1⟩; unfold En.isBlk; have x0 : w1.cell? ⟨wr.heap.size, 0, none⟩ = some (.int .i64 3) := (hb1.cell (p := ⟨wr.heap.size, 0, none⟩) (by simp)).trans (by simp); have x1 : w1.cell? ⟨wr.heap.size, 1, none⟩ = some (.int .i64 0) := (hb1.cell (p := ⟨wr.heap.size, 1, none⟩) (by simp)).trans (by simp); have x2 : w1.cell? ⟨wr.heap.size, 2, none⟩ = some (.string (bt K)) := (hb1.cell (p := ⟨wr.heap.size, 2, none⟩) (by simp)).trans (by simp); have y1 : Below w.heap.size w w1 := blwS (HB.out.alloc HB.out.size _).drew hb1 (by have := HB.out.size; show w.heap.size ≤ (wr.alloc _).heap.size; simp; omega); have y0 : w.heap.size ≤ w1.heap.size := y1.size; have y3 : wr.heap.size < w1.heap.size := Nat.lt_of_lt_of_le (by simp) hb1.size; clear hb1) | (go_at_call 64; refine (mark_lt _).mono ?_; rintro e w2 ⟨rfl, hb2⟩; have x0 : w2.cell? ⟨wr.heap.size, 0, none⟩ = some (.int .i64 3) := (hb2.cell (p := ⟨wr.heap.size, 0, none⟩) y3).trans x0; have x1 : w2.cell? ⟨wr.heap.size, 1, none⟩ = some (.int .i64 0) := (hb2.cell (p := ⟨wr.heap.size, 1, none⟩) y3).trans x1; have x2 : w2.cell? ⟨wr.heap.size, 2, none⟩ = some (.string (bt K)) := (hb2.cell (p := ⟨wr.heap.size, 2, none⟩) y3).trans x2; have y2 : Below w.heap.size w w2 := blwS y1 hb2 y0; clear hb2))
          all_goals go_wp2
          all_goals go_ret
          all_goals exact ⟨ret_bool (HN.out HF.out).symm, by assumption⟩
    · go_wp2
      go_ret
      refine ⟨ret_bool ?_, HB.out⟩
      have h := H.out
      rw [List.take_of_length_le (by omega)] at h
      exact h.symm
end Go.Proofs.Ytbjbmehkcfpahaa
