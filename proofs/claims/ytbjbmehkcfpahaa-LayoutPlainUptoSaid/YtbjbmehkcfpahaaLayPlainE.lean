/- The walk of the law LayoutPlain for any tokens. No condition but a bound on their number. -/
import Derived.Test.YtbjbmehkcfpahaaLayPlain
namespace Go.Proofs.Ytbjbmehkcfpahaa
open Go.RowKit Lx
attribute [local go_sem] bt_size bt_get bt_list bt_toList bt_drop bt_take
attribute [local go_sem ↓] Go.wp_at_zero Go.wp_at_succ

set_option maxHeartbeats 4000000 in
set_option maxRecDepth 100000 in
theorem plain_none (ao : Option Addr) (cap : Nat) (w : World) :
    Calls Try.prog 7 #[.slice ao 0 cap] w fun e w' => e = .returned (.bool true) ∧ Below w.heap.size w w' := by
  obtain ⟨i0, hi, hz0, hz1, hz2i⟩ := info_parts info_rt
  go_enter Try.func7, Try.ntmps7
  go_wp2
  refine wp_loop_rounds 1 ?_
  rw [rounds_succ]
  go_wp2_with fail
  refine (lay_empty ao cap _).mono ?_
  rintro e w2 hp
  have hly : layL [] = .ok [endT none] := rfl
  unfold LayPost at hp
  rw [hly] at hp
  obtain ⟨v2, rfl, ho2, hb2⟩ := hp
  obtain ⟨en, hen⟩ : ∃ en, en = endT none := ⟨_, rfl⟩
  rw [← hen] at ho2
  obtain ⟨g2, cap2, rfl, hg2, hl2, hc2, hm2, ht2⟩ := rts_form ho2 (by simp)
  have hE2 : BoxAt w2 w.heap.size en := by rw [hen]; exact (boxAt_new w (endT none)).below hb2 (by simp)
  obtain ⟨x0, x1, x2, x3, x4⟩ := hE2
  have hz2 : w.heap.size < w2.heap.size := Nat.lt_of_lt_of_le (by simp) hb2.size
  have HR2 := Lib.hid ht2
  have HB2 := Lib.hid (blw2 (below_alloc w (boxT (endT none))) hb2)
  clear ho2 hb2 ht2 hly hen
  unfold dgV
  go_wp2_with (at_builtin; refine BigFrame.wpList_want (by rfl) (fun K hK => ?_); refine wp_append_lies _ _ _ _ (by rfl) (w.heap.size + 1) 33 i0 _ 5 48 under_rts hi hz0 hz1 hz2i rfl (by decide) (.slice none 0 0) 0 [] (by rfl) (World.ownsRow_nil _ _ _ _) ⟨w2.heap.size + 1, 0, none⟩ 1 1 (rtCells en) (by rfl) (by rfl) (rt_news3 w2 _ en) (rt_one en) (by omega) (by simp [maxLen]) (by omega) (by simp; omega) _ rfl ?_; intro g6 cap6 w6 hown6 hgrow hat hlt6; refine hK _ _ ?_; clear hK)
  obtain ⟨_, _, hve, hg6, hl6, hc6, hm6, ht6⟩ := rts_form (show w6.ownsRow (w.heap.size + 1) 33 5 (.slice (some ⟨g6, 0, none⟩) 1 cap6) [en].length (rtsCells [en]) by simpa [rtsCells] using hown6) (by simp)
  obtain ⟨rfl, rfl⟩ : g6 = _ ∧ cap6 = _ := by
    injection hve with h1 h2 h3
    injection h1 with h1
    injection h1 with h1 _ _
    exact ⟨h1, h3⟩
  have HR6 := Lib.hid (HR2.out.same (show w6.heap[g2]? = w2.heap[g2]? from (hgrow.block g2 (by simp; omega) (fun e => by cases e)).trans (by rw [Below.heap_alloc _ _ _ (by simp; omega), Below.heap_alloc _ _ _ hl2])))
  have HT6 := Lib.hid ht6
  have HB6 := Lib.hid (show Below w.heap.size w w6 from ((HB2.out.alloc HB2.out.size _).alloc (by simp; omega) _).grown hgrow (by simp; omega) (fun q hq => by cases hq))
  clear hown6 hgrow ht6 hat hve
  go_wp2_with fail
  refine (sameR_any w6 g2 g6 0 0 cap2 cap6 [en] HR6.out HT6.out (by simp)).mono ?_
  rintro e w7 ⟨rfl, m, rfl⟩
  go_wp2_with fail
  refine (awake2_any _).mono ?_
  rintro e w8 ⟨rfl, hb8⟩
  have HB8 := Lib.hid (blwS (bls_drewN HB6.out m) hb8 (by have := HB6.out.size; exact this))
  clear hb8
  go_wp2
  go_ret
  exact ⟨rfl, HB8.out⟩

theorem plain_any (w : World) (v : Value) (ts : List Rt) (h : TsV w v ts) (hn : ts.length ≤ 200000) :
    Calls Try.prog 7 #[v] w fun e w' => e = .returned (.bool true) ∧ Below w.heap.size w w' := by
  rcases h with ⟨rfl, ao, cap, rfl⟩ | ⟨h0, b, off, cap, rfl, ha, hlt, hc, hm⟩
  · exact plain_none ao cap w
  · exact plain_some w b off cap ts ha hlt hc hm h0 hn
end Go.Proofs.Ytbjbmehkcfpahaa
