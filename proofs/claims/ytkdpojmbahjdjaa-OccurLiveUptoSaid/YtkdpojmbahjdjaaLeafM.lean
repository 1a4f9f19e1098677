/- The free names of an expression without parts: measuring it. No condition. -/
import Derived.Test.YtkdpojmbahjdjaaLeaf
import Derived.Test.YtkdpojmbahjdjaaOne
import Derived.Laws.ResultCell
namespace Go.Proofs.Ytkdpojmbahjdjaa
open Go.RowKit Ex0

theorem results_ct {P : Program} {fn : Func} {p u : Tmp} {ty : TypeId} (h : fn.results = #[.cell p ty, .tmp u]) (tmps : Array Value) (w : World) (g : Nat) (t : TypeId) (cs : Array Value) (fr : Nat × Nat) (d : TypeDesc)
    (hp : tmps.getD p undef = .pointer (some ⟨g, 0, none⟩)) (hg : w.heap[g]? = some (.cells cs t fr)) (hu : P.underlying ty = some d) (hd : (match d with | .struct _ | .array _ _ => true | _ => false) = true) (hi : (P.info? ty).map (·.size) = some cs.size) :
    (results fn tmps).run P w = .ok (.tuple #[.agg cs, tmps.getD u undef]) w := by
  rw [results_cell_tmp h, hp]
  simp [asAddr, run_loadVar_row w g t ty cs fr d hg hu hd hi, Result.andThen]
theorem hp4_set {W : World} {b : Nat} {v0 v1 v2 v3 : Value} {T : TypeId} {fr : Nat × Nat} (h : W.heap[b]? = some (.cells #[v0, v1, v2, v3] T fr)) (n0 n1 n2 n3 : Int) :
    ((((W.setCell ⟨b, 0, none⟩ (.int .i64 n0)).setCell ⟨b, 1, none⟩ (.int .i64 n1)).setCell ⟨b, 2, none⟩ (.int .i64 n2)).setCell ⟨b, 3, none⟩ (.int .i64 n3)).heap[b]? = some (.cells #[.int .i64 n0, .int .i64 n1, .int .i64 n2, .int .i64 n3] T fr) :=
  (heap_set (heap_set (heap_set (heap_set h _) _) _) _).trans rfl
theorem drewN_two (w : World) (a b : Nat) : (w.drewN a).drewN b = w.drewN (a + b) := by
  unfold World.drewN
  simp [Nat.add_assoc]
theorem children_q (b : Nat) (k : Int) (s : List UInt8) (W : World) (n : Nat) (h : LfAt W b k s) :
    Calls Try.prog 47 #[.pointer (some ⟨b, 0, none⟩)] (W.drewN n) fun e w' => e = .returned (.int .i64 0) ∧ ∃ m, w' = W.drewN m :=
  (children_lf b k s (W.drewN n) (h.below (B := W.heap.size) (below_same (Below.refl _ _) rfl rfl rfl rfl) h.lt)).mono fun _ _ ⟨he, m, hm⟩ => ⟨he, n + m, by rw [hm, drewN_two]⟩

set_option maxHeartbeats 2000000 in
set_option maxRecDepth 100000 in
theorem measure_lf (mb kb b : Nat) (p k : Int) (s : List UInt8) (W : World) (hm : MzAt W mb kb p) (hp : 0 < p) (h : LfAt W b k s) :
    Calls Try.prog 29 #[.pointer (some ⟨mb, 0, none⟩), .pointer (some ⟨b, 0, none⟩)] W fun e w' => e = .returned (.tuple #[.agg #[.int .i64 1, .int .i64 1, .int .i64 136, .int .i64 0], .bool true]) ∧ Below W.heap.size W w' := by
  have HM := Lib.hid hm
  have HL := Lib.hid h
  have hml := (mz_cell hm).2
  have hbl := h.lt
  clear hm h
  go_enter Try.func29, Try.ntmps29
  go_wp2_with fail
  refine (extent_lf b k s _ (HL.out.below (below_alloc' W _) hbl)).mono ?_
  rintro e W2 ⟨rfl, hb2⟩
  have HB2 := Lib.hid ((below_alloc' W (.cells #[.int .i64 0, .int .i64 0, .int .i64 0, .int .i64 0] 82)).trans (hb2.mono (by simp)))
  have HA2 := Lib.hid (show W2.heap[W.heap.size]? = some (.cells #[.int .i64 0, .int .i64 0, .int .i64 0, .int .i64 0] 82 (0, 0)) from (hb2.block W.heap.size (by simp)).trans (World.alloc_heap_new W _))
  have hs2 : W.heap.size < W2.heap.size := by have := hb2.size; simp at this; omega
  clear hb2
  go_wp2_with fail
  obtain ⟨W3, hW3⟩ : ∃ W3, W2.alloc (.cells #[.pointer (some ⟨b, 0, none⟩), .int .i64 0, .int .i64 1, .int .i64 1, .int .i64 136, .int .i64 0] 104) = W3 := ⟨_, rfl⟩
  have hb3 : Below W2.heap.size W2 W3 := by rw [← hW3]; exact below_alloc' _ _
  have HB3 := Lib.hid (HB2.out.trans (hb3.mono (Nat.le_of_lt hs2)))
  have HL3 := Lib.hid (HL.out.below HB3.out hbl)
  have hm3 : MzAt W3 mb kb p := (HB3.out.block mb hml).trans HM.out
  have hst : W3.heap[W2.heap.size]? = some (.cells #[.pointer (some ⟨b, 0, none⟩), .int .i64 0, .int .i64 1, .int .i64 1, .int .i64 136, .int .i64 0] 104 (0, 0)) := by rw [← hW3]; exact World.alloc_heap_new W2 _
  have s0 : W3.cell? ⟨W2.heap.size, 0, none⟩ = some (.pointer (some ⟨b, 0, none⟩)) := by simp [World.cell?, hst]
  have s1 : W3.cell? ⟨W2.heap.size, 1, none⟩ = some (.int .i64 0) := by simp [World.cell?, hst]
  have s2 : W3.cell? ⟨W2.heap.size, 2, none⟩ = some (.int .i64 1) := by simp [World.cell?, hst]
  have s3 : W3.cell? ⟨W2.heap.size, 3, none⟩ = some (.int .i64 1) := by simp [World.cell?, hst]
  have s4 : W3.cell? ⟨W2.heap.size, 4, none⟩ = some (.int .i64 136) := by simp [World.cell?, hst]
  have s5 : W3.cell? ⟨W2.heap.size, 5, none⟩ = some (.int .i64 0) := by simp [World.cell?, hst]
  have HM3 := Lib.hid hm3
  have HS3 := Lib.hid hst
  have HA3 := Lib.hid ((hb3.block W.heap.size hs2).trans HA2.out)
  have hs3 : W2.heap.size < W3.heap.size := (Array.getElem?_eq_some_iff.1 hst).1
  rw [hW3]
  clear hW3 hb3 hm3 hst
  go_loopw [5, 6] (fun u v wr => u = .bool false ∧ v = .slice (some ⟨W2.heap.size, 0, none⟩) 1 1 ∧ wr = W3) (fun _ _ _ => 0)
  case atStart => exact ⟨rfl, rfl, rfl⟩
  case round =>
    obtain ⟨rfl, rfl, rfl⟩ := hrel
    go_wp2_with fail
    go_quiet ((go_at_call 47; exact children_q b k s _ _ HL3.out))
    go_wp2_with fail
    refine region_one 9 (by kernel_rfl) (by kernel_rfl) ?_
    simp only [List.take_succ_cons, List.take_zero, List.drop_succ_cons, List.drop_zero]
    refine swk_want (by rfl) (fun K hK => ?_)
    replace hK := Lib.hid hK
    go_simp
    refine hK.out _ ?_
    clear hK K
    refine swk_want (by rfl) (fun K hK => ?_)
    replace hK := Lib.hid hK
    go_simp
    refine hK.out _ ?_
    clear hK K
    refine swk_want (by rfl) (fun K hK => ?_)
    replace hK := Lib.hid hK
    go_simp
    refine hK.out _ ?_
    clear hK K
    refine swk_want (by rfl) (fun K hK => ?_)
    replace hK := Lib.hid hK
    go_simp
    refine hK.out _ ?_
    clear hK K
    refine swk_want (by rfl) (fun K hK => ?_)
    replace hK := Lib.hid hK
    go_simp
    refine hK.out _ ?_
    clear hK K
    refine swk_want (by rfl) (fun K hK => ?_)
    replace hK := Lib.hid hK
    go_simp
    refine hK.out _ ?_
    clear hK K
    refine swk_want (by rfl) (fun K hK => ?_)
    replace hK := Lib.hid hK
    go_simp
    refine hK.out _ ?_
    clear hK K
    refine swk_want (by rfl) (fun K hK => ?_)
    replace hK := Lib.hid hK
    go_simp
    refine hK.out _ ?_
    clear hK K
    refine swk_want (by rfl) (fun K hK => ?_)
    replace hK := Lib.hid hK
    go_simp
    refine hK.out _ ?_
    clear hK K
    refine swk_nil ?_
    refine one_want rfl (by rfl) (fun K hK => ?_)
    replace hK := Lib.hid hK
    go_simp
    refine (note_lf mb kb p _ _ _ _ _ _ (show MzAt (wr.drewN (nq + 1)) mb kb p from HM3.out) hp).mono ?_
    rintro e w5 ⟨⟨v5, rfl⟩, hb5⟩
    refine hK.out _ _ ?_
    clear hK K
    simp only [List.take_succ_cons, List.take_zero, List.drop_succ_cons, List.drop_zero]
    refine swk_nil ?_
    have hb5' : Below wr.heap.size wr w5 := ⟨hb5.os, hb5.tape, hb5.output, hb5.size, hb5.block⟩
    have HB5 := Lib.hid (HB3.out.trans (hb5'.mono (by omega)))
    have q5 := fun o => hb5'.cell (p := ⟨W2.heap.size, o, none⟩) hs3
    have a5 : w5.heap[W.heap.size]? = some (.cells #[.int .i64 0, .int .i64 0, .int .i64 0, .int .i64 0] 82 (0, 0)) := (hb5'.block W.heap.size (by omega)).trans HA3.out
    have y2 := (q5 2).trans s2
    have y3 := (q5 3).trans s3
    have y4 := (q5 4).trans s4
    have y5 := (q5 5).trans s5
    have x0 : w5.cell? ⟨W.heap.size, 0, none⟩ = some (.int .i64 0) := by simp [World.cell?, a5]
    have x1 : w5.cell? ⟨W.heap.size, 1, none⟩ = some (.int .i64 0) := by simp [World.cell?, a5]
    have x2 : w5.cell? ⟨W.heap.size, 2, none⟩ = some (.int .i64 0) := by simp [World.cell?, a5]
    have x3 : w5.cell? ⟨W.heap.size, 3, none⟩ = some (.int .i64 0) := by simp [World.cell?, a5]
    have f0 : w5.frozen? ⟨W.heap.size, 0, none⟩ = false := by simp [World.frozen?, a5]
    have f1 : w5.frozen? ⟨W.heap.size, 1, none⟩ = false := by simp [World.frozen?, a5]
    have f2 : w5.frozen? ⟨W.heap.size, 2, none⟩ = false := by simp [World.frozen?, a5]
    have f3 : w5.frozen? ⟨W.heap.size, 3, none⟩ = false := by simp [World.frozen?, a5]
    have HA5 := Lib.hid a5
    clear hb5 hb5' q5 s0 s1 s2 s3 s4 s5 a5
    go_wp2_with fail
    have HA6 := Lib.hid (hp4_set HA5.out 1 1 136 0)
    refine bodyPost_ret (results_ct rfl _ _ W.heap.size 82 #[.int .i64 1, .int .i64 1, .int .i64 136, .int .i64 0] (0, 0) (.struct extFs) rfl HA6.out under_ext rfl size_ext) rfl ?_
    exact ⟨rfl, (((HB5.out.setCell (p := ⟨W.heap.size, 0, none⟩) (Nat.le_refl _) _).setCell (p := ⟨W.heap.size, 1, none⟩) (Nat.le_refl _) _).setCell (p := ⟨W.heap.size, 2, none⟩) (Nat.le_refl _) _).setCell (p := ⟨W.heap.size, 3, none⟩) (Nat.le_refl _) _⟩
end Go.Proofs.Ytkdpojmbahjdjaa
