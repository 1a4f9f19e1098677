/- Contracts of layout.Lay and its split for a slice without tokens, wherever it lies: the end token alone. No condition. -/
import Derived.Test.YtbjbmehkcfpahaaLayLay
namespace Go.Proofs.Ytbjbmehkcfpahaa
open Go.RowKit Lx
attribute [local go_sem] bt_size bt_get bt_list bt_toList bt_drop bt_take
attribute [local go_sem ↓] Go.wp_at_zero Go.wp_at_succ

set_option maxHeartbeats 1000000 in
set_option maxRecDepth 100000 in
theorem split_empty (ao : Option Addr) (cap : Nat) (w : World) :
    Calls Try.prog 32 #[.slice ao 0 cap] w fun e w' => SplitPost w (.slice ao 0 cap) (endT none) e w' := by
  go_enter Try.func32, Try.ntmps32
  go_wp2
  refine wp_loop_rounds 1 ?_
  rw [rounds_succ]
  go_wp2
  go_region
  all_goals
    go_wp2
    refine bodyPost_ret (v := .tuple #[.slice ao 0 cap, tokV (endT none)]) (by simp [results, go_sem, tokV, endT]; rfl) rfl ?_
    refine ⟨rfl, ?_⟩
    exact blw2 (below_alloc _ _).drew (below_alloc _ _)

set_option maxHeartbeats 4000000 in
set_option maxRecDepth 100000 in
theorem lay_empty (ao : Option Addr) (cap : Nat) (w : World) :
    Calls Try.prog 13 #[.slice ao 0 cap] w fun e w' => LayPost w [] e w' := by
  go_enter Try.func13, Try.ntmps13
  go_wp2_with fail
  refine (split_empty ao cap (w.alloc zeroDg)).mono ?_
  rintro e w1 ⟨rfl, hb1⟩
  obtain ⟨en, hen⟩ : ∃ en, en = endT none := ⟨_, rfl⟩
  rw [← hen]
  have hz1 : w.heap.size < w1.heap.size := by have := hb1.size; simp at this; omega
  have HD1 := Lib.hid (show w1.heap[w.heap.size]? = some zeroDg from (hb1.block _ (by simp)).trans (heap_alloc_new w zeroDg))
  have HB1 := Lib.hid (blw2 (below_alloc w zeroDg) hb1)
  have HEn := Lib.hid hen
  clear hb1 hen
  unfold tokV
  go_wp2
  obtain ⟨W, hW⟩ : ∃ W, W = (w1.alloc (boxT en)).alloc (.cells #[.slice none 0 0, .slice none 0 0, .slice none 0 0] 63) := ⟨_, rfl⟩
  have hzW : W.heap.size = w1.heap.size + 2 := by rw [hW]; simp
  have hDg : W.heap[w.heap.size]? = some zeroDg := by rw [hW, Below.heap_alloc _ _ _ (by simp; omega), Below.heap_alloc _ _ _ hz1]; exact HD1.out
  have HL := Lib.hid (show LayAt W ⟨w1.heap.size + 1, .slice none 0 0, .slice none 0 0, .slice none 0 0⟩ [] [] by
    have := layAt_new (w1.alloc (boxT en))
    rw [show (w1.alloc (boxT en)).heap.size = w1.heap.size + 1 from by simp] at this
    rw [hW]; exact this)
  obtain ⟨x0, x1, x2, x3, x4⟩ := show BoxAt W w1.heap.size en by rw [hW]; exact (boxAt_new w1 en).below (below_alloc _ _) (by simp)
  have HBW := Lib.hid (show Below w.heap.size w W by rw [hW]; exact (HB1.out.alloc HB1.out.size _).alloc (by simp; omega) _)
  have HDg := Lib.hid hDg
  have hW' : (w1.alloc (.cells #[.int .i64 en.kind, .string (bt en.text), .int .i64 en.n, .int .i64 en.line, .int .i64 en.col] 33)).alloc (.cells #[.slice none 0 0, .slice none 0 0, .slice none 0 0] 63) = W := hW.symm
  rw [hW']
  clear hW hW' HD1 HB1 hDg
  refine wp_loop_rounds 1 ?_
  rw [rounds_succ]
  go_wp2_with fail
  refine (finish_any W _ [] [] en false (w1.heap.size + 1) rfl HL.out (by simp)).mono ?_
  rintro e w2 hp
  have hfin : finX en false [] = some ([], [en]) := rfl
  unfold LinePost at hp
  rw [hfin] at hp
  obtain ⟨rfl, s2, hl2, hs2⟩ := hp
  have HS2 := Lib.hid hs2
  have HL2 := Lib.hid hl2
  have hg2 : s2.g = w1.heap.size + 1 := hs2.g
  have c2 := hl2.cells.2.2
  rw [hg2] at c2
  have HG2 := Lib.hid hg2
  clear x0 x1 x2 x3 x4 hl2 hs2 hg2 hfin
  have hDg2 : w2.heap[w.heap.size]? = some zeroDg := (HS2.out.low (i := w.heap.size) (by omega) (by omega)).1.trans HDg.out
  have HB2 := Lib.hid (show Below w.heap.size w w2 from ⟨HS2.out.os.trans HBW.out.os, HS2.out.tape.trans HBW.out.tape, HS2.out.output.trans HBW.out.output, Nat.le_trans HBW.out.size HS2.out.size, fun i hi => (HS2.out.low (i := i) (by omega) (by omega)).1.trans (HBW.out.block i hi)⟩)
  have hz2 : w.heap.size < w2.heap.size := by have := HS2.out.size; omega
  have y0 : w2.cell? ⟨w.heap.size, 0, none⟩ = some (.string ⟨#[]⟩) := by simp [World.cell?, hDg2, zeroDg]
  have y1 : w2.cell? ⟨w.heap.size, 1, none⟩ = some (.int .i64 0) := by simp [World.cell?, hDg2, zeroDg]
  have y2 : w2.cell? ⟨w.heap.size, 2, none⟩ = some (.int .i64 0) := by simp [World.cell?, hDg2, zeroDg]
  have y3 : w2.cell? ⟨w.heap.size, 3, none⟩ = some (.int .i64 0) := by simp [World.cell?, hDg2, zeroDg]
  have yf : ∀ j, w2.frozen? ⟨w.heap.size, j, none⟩ = false := fun j => by simp [World.frozen?, hDg2, zeroDg]
  clear hDg2
  go_wp2
  refine bodyPost_ret (v := .tuple #[s2.vo, dgV 0 0 0]) (by simp [results, go_sem, dgV, y0, y1, y2, y3]) rfl ?_
  unfold LayPost
  have hly : layL [] = .ok [en] := by rw [HEn.out]; rfl
  rw [hly]
  refine ⟨s2.vo, rfl, ?_, bls_set (bls_set (bls_set (bls_set HB2.out (Nat.le_refl _) _ _) (Nat.le_refl _) _ _) (Nat.le_refl _) _ _) (Nat.le_refl _) _ _⟩
  have hb2 : w.heap.size < s2.g + 1 := by rw [HG2.out]; omega
  exact (own_set (own_set (own_set (own_set HL2.out.ou hb2 _ _) hb2 _ _) hb2 _ _) hb2 _ _).mono (by omega)

/-- A value that is a slice of these tokens. -/
def TsV (w : World) (v : Value) (ts : List Rt) : Prop :=
  (ts = [] ∧ ∃ ao cap, v = .slice ao 0 cap) ∨ (0 < ts.length ∧ ∃ b off cap, v = .slice (some ⟨b, off, none⟩) ts.length cap ∧ RtAt w b off ts ∧ b < w.heap.size ∧ ts.length ≤ cap ∧ cap ≤ maxLen)
theorem TsV.below {w w' : World} {v : Value} {ts : List Rt} (h : TsV w v ts) (hb : Below w.heap.size w w') : TsV w' v ts := by
  rcases h with h | ⟨h0, b, off, cap, hv, ha, hlt, hc, hm⟩
  · exact .inl h
  · exact .inr ⟨h0, b, off, cap, hv, ha.below hb hlt, Nat.lt_of_lt_of_le hlt hb.size, hc, hm⟩
theorem lay_v (w : World) (v : Value) (ts : List Rt) (h : TsV w v ts) (hn : ts.length ≤ 1000000) : Calls Try.prog 13 #[v] w fun e w' => LayPost w ts e w' := by
  rcases h with ⟨rfl, ao, cap, rfl⟩ | ⟨h0, b, off, cap, rfl, ha, hlt, hc, hm⟩
  · exact lay_empty ao cap w
  · exact lay_any w b off cap ts ha hlt hc hm hn
end Go.Proofs.Ytbjbmehkcfpahaa
