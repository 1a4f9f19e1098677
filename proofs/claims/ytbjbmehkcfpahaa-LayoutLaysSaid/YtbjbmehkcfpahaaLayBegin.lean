/- Contracts of the object's begin. No condition but bounds on what is open and laid. -/
import Derived.Test.YtbjbmehkcfpahaaLayPush
namespace Go.Proofs.Ytbjbmehkcfpahaa
open Go.RowKit Lx
attribute [local go_sem] bt_size bt_get bt_list bt_toList bt_drop bt_take
attribute [local go_sem ↓] Go.wp_at_zero Go.wp_at_succ

theorem push_g (w : World) (s : St) (rs : List En) (out : List Rt) (e : En) (g : Nat) (hg : s.g = g) (h : LayAt w s rs out) (hn : rs.length ≤ 10000000) :
    Calls Try.prog 56 #[.pointer (some ⟨g, 0, none⟩), enV e] w fun x w' => LPost s w (e :: rs) out (.returned (.tuple #[])) x w' := by
  subst hg; exact push_any w s rs out e h hn
theorem emit_g (w : World) (s : St) (rs : List En) (out : List Rt) (t : Rt) (g : Nat) (hg : s.g = g) (h : LayAt w s rs out) (hn : out.length ≤ 10000000) :
    Calls Try.prog 58 #[.pointer (some ⟨g, 0, none⟩), tokV t] w fun e w' => LPost s w rs (out ++ [t]) (.returned (.tuple #[])) e w' := by
  subst hg; exact emit_any w s rs out t h hn
theorem insert_g (w : World) (s : St) (rs : List En) (out : List Rt) (x : List UInt8) (t : Rt) (g : Nat) (hg : s.g = g) (h : LayAt w s rs out) (hn : out.length ≤ 10000000) :
    Calls Try.prog 91 #[.pointer (some ⟨g, 0, none⟩), .string (bt x), tokV t] w fun e w' => LPost s w rs (out ++ [insT x t]) (.returned (.tuple #[])) e w' := by
  subst hg; exact insert_any w s rs out x t h hn
theorem cut_g (w : World) (s : St) (ab rs : List En) (out : List Rt) (g : Nat) (hg : s.g = g) (h : LayAt w s (ab ++ rs) out) (h0 : 0 < ab.length + rs.length) (hn : ab.length + rs.length ≤ 10000000) :
    Calls Try.prog 94 #[.pointer (some ⟨g, 0, none⟩), .int .i64 (rs.length : Int)] w fun e w' => LPost s w rs out (.returned (.tuple #[])) e w' := by
  subst hg; exact cut_any w s ab rs out h h0 hn
theorem column_g (w : World) (s : St) (rs : List En) (out : List Rt) (g : Nat) (hg : s.g = g) (h : LayAt w s rs out) (hn : rs.length ≤ 10000000) :
    Calls Try.prog 92 #[.pointer (some ⟨g, 0, none⟩)] w fun e w' => e = .returned (.int .i64 ((curC rs).getD 0)) ∧ Below w.heap.size w w' := by
  subst hg; exact column_any w s rs out h hn
theorem reach_g (w : World) (s : St) (rs : List En) (out : List Rt) (g : Nat) (hg : s.g = g) (h : LayAt w s rs out) (hn : rs.length ≤ 10000000) :
    Calls Try.prog 88 #[.pointer (some ⟨g, 0, none⟩)] w fun e w' => e = .returned (rcV rs) ∧ Below w.heap.size w w' := by
  subst hg; exact reach_any w s rs out h hn

/-- A token lies in a block that is none of the object's. -/
structure BX (s : St) (w : World) (b : Nat) (t : Rt) : Prop where
  at_ : BoxAt w b t
  lt : b < w.heap.size
  no : ¬ s.own b
theorem BX.new {w : World} {s : St} {rs : List En} {out : List Rt} (h : LayAt w s rs out) (t : Rt) : BX s (w.alloc (boxT t)) w.heap.size t := ⟨boxAt_new w t, by simp, h.fresh (Nat.le_refl _)⟩
theorem BX.step {s s' : St} {w w' : World} {b : Nat} {t : Rt} (h : BX s w b t) (k : Step s s' w w') : BX s' w' b t :=
  ⟨h.at_.same (k.block b h.lt h.no).1, Nat.lt_of_lt_of_le h.lt k.size, (k.block b h.lt h.no).2⟩
theorem BX.below {s : St} {w w' : World} {b : Nat} {t : Rt} (h : BX s w b t) (k : Below w.heap.size w w') : BX s w' b t := h.step (.of_below s k)

set_option maxHeartbeats 2000000 in
set_option maxRecDepth 100000 in
theorem begin_any (w : World) (s : St) (rs : List En) (out : List Rt) (t : Rt) (col : Int) (h : LayAt w s rs out) (hn : rs.length + out.length ≤ 9000000) :
    Calls Try.prog 59 #[.pointer (some ⟨s.g, 0, none⟩), tokV t, .int .i64 col] w fun e w' => LPost s w (beginL t col rs).2.1 (out ++ (beginL t col rs).2.2) (.returned (.bool (beginL t col rs).1)) e w' := by
  have HL0 := Lib.hid (h.below (below_alloc w (boxT t)))
  have HS0 := Lib.hid (Step.of_below s (below_alloc w (boxT t)))
  have HX0 := Lib.hid (BX.new h t)
  clear h
  unfold tokV
  by_cases hc : (curC rs).getD 0 < col
  · have hL := Lib.hid (show beginL t col rs = (true, .blk col :: rs, [insT [123] t]) by rw [beginL, if_pos hc])
    rw [hL.out]
    go_enter Try.func59, Try.ntmps59
    go_wp2_with fail
    refine (insert_g (w.alloc (boxT t)) s rs out [123] t s.g rfl HL0.out (by omega)).mono ?_
    rintro e w2 ⟨rfl, s2, hl2, hs2⟩
    have HL2 := Lib.hid hl2
    have HS2 := Lib.hid (HS0.out.trans hs2)
    have HX2 := Lib.hid (HX0.out.step hs2)
    clear hl2 hs2
    go_wp2_with fail
    refine (column_g w2 s2 rs _ s.g HS2.out.g HL2.out (by omega)).mono ?_
    rintro e w3 ⟨rfl, hb3⟩
    have HL3 := Lib.hid (HL2.out.below hb3)
    have HS3 := Lib.hid (HS2.out.trans (.of_below s2 hb3))
    clear hb3
    generalize (curC rs).getD 0 = m at *
    go_wp2
    go_region_with (first
      | (go_at_call 93; refine (block_any _ _).mono ?_; rintro e w4 ⟨rfl, hb4⟩; have HL4 := Lib.hid ((HL3.out.below (Below.refl _ _).drew).below hb4); have HS4 := Lib.hid (HS3.out.drew.trans (.of_below s2 hb4)); clear hb4)
      | (go_at_call 56; refine (push_g _ s2 rs _ (.blk col) s.g HS4.out.g HL4.out (by omega)).mono ?_; rintro e w5 ⟨rfl, s5, hl5, hs5⟩; have HL5 := Lib.hid hl5; have HS5 := Lib.hid (HS4.out.trans hs5); clear hl5 hs5))
    all_goals
      go_wp2
      go_ret
      exact ⟨rfl, s5, HL5.out, HS5.out⟩
  · have hL := Lib.hid (show beginL t col rs = (false, rs, [insT [123] t, insT [125] t]) by rw [beginL, if_neg hc])
    rw [hL.out]
    go_enter Try.func59, Try.ntmps59
    go_wp2_with fail
    refine (insert_g (w.alloc (boxT t)) s rs out [123] t s.g rfl HL0.out (by omega)).mono ?_
    rintro e w2 ⟨rfl, s2, hl2, hs2⟩
    have HL2 := Lib.hid hl2
    have HS2 := Lib.hid (HS0.out.trans hs2)
    have HX2 := Lib.hid (HX0.out.step hs2)
    clear hl2 hs2
    go_wp2_with fail
    refine (column_g w2 s2 rs _ s.g HS2.out.g HL2.out (by omega)).mono ?_
    rintro e w3 ⟨rfl, hb3⟩
    have HL3 := Lib.hid (HL2.out.below hb3)
    have HS3 := Lib.hid (HS2.out.trans (.of_below s2 hb3))
    have HX3 := Lib.hid (HX2.out.below hb3)
    obtain ⟨x0, x1, x2, x3, x4⟩ := HX3.out.at_
    clear hb3
    generalize (curC rs).getD 0 = m at *
    go_wp2_with fail
    refine (insert_g w3 s2 rs _ [125] t s.g HS3.out.g HL3.out (by simp; omega)).mono ?_
    rintro e w4 ⟨rfl, s4, hl4, hs4⟩
    have HL4 := Lib.hid hl4
    have HS4 := Lib.hid (HS3.out.trans hs4)
    clear hl4 hs4
    go_wp2
    go_ret
    refine ⟨rfl, s4, ?_, HS4.out⟩
    have := HL4.out
    simpa using this
end Go.Proofs.Ytbjbmehkcfpahaa
