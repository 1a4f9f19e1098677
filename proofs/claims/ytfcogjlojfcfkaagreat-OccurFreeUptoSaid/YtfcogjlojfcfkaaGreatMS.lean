/- The free names of an expression without parts: measuring it. No condition. -/
import Derived.Test.YtfcogjlojfcfkaaGreatMR
import Derived.Laws.ResultCell
import Derived.Maps.OwnSet
section
namespace Go.Proofs.YtfcogjlojfcfkaaGreat
open Go.RowKit Ex0

theorem results_ct {P : Program} {fn : Func} {p u : Tmp} {ty : TypeId} (h : fn.results = #[.cell p ty, .tmp u]) (tmps : Array Value) (w : World) (g : Nat) (t : TypeId) (cs : Array Value) (fr : Nat × Nat) (d : TypeDesc)
    (hp : tmps.getD p undef = .pointer (some ⟨g, 0, none⟩)) (hg : w.heap[g]? = some (.cells cs t fr)) (hu : P.underlying ty = some d) (hd : (match d with | .struct _ | .array _ _ => true | _ => false) = true) (hi : (P.info? ty).map (·.size) = some cs.size) :
    (results fn tmps).run P w = .ok (.tuple #[.agg cs, tmps.getD u undef]) w := by
  rw [results_cell_tmp h, hp]
  simp [asAddr, run_loadVar_row w g t ty cs fr d hg hu hd hi, Result.andThen]
theorem hp4_set {W : World} {b : Nat} {v0 v1 v2 v3 : Value} {T : TypeId} {fr : Nat × Nat} (h : W.heap[b]? = some (.cells #[v0, v1, v2, v3] T fr)) (n0 n1 n2 n3 : Int) :
    ((((W.setCell ⟨b, 0, none⟩ (.int .i64 n0)).setCell ⟨b, 1, none⟩ (.int .i64 n1)).setCell ⟨b, 2, none⟩ (.int .i64 n2)).setCell ⟨b, 3, none⟩ (.int .i64 n3)).heap[b]? = some (.cells #[.int .i64 n0, .int .i64 n1, .int .i64 n2, .int .i64 n3] T fr) :=
  (heap_set (heap_set (heap_set (heap_set h _) _) _) _).trans rfl
theorem drewN_two (w : World) (a b : Nat) : (w.drewN a).drewN b = w.drewN (a + b) := by
  unfold World.drewN
  simp [Nat.add_assoc]
theorem children_q (b : Nat) (k : Int) (s : List UInt8) (W : World) (n : Nat) (h : LfAt W b k s) :
    Calls Tryz.prog 31 #[.pointer (some ⟨b, 0, none⟩)] (W.drewN n) fun e w' => e = .returned (.int .i64 0) ∧ ∃ m, w' = W.drewN m :=
  (children_lf b k s (W.drewN n) (h.below (B := W.heap.size) (below_same (Below.refl _ _) rfl rfl rfl rfl) h.lt)).mono fun _ _ ⟨he, m, hm⟩ => ⟨he, n + m, by rw [hm, drewN_two]⟩

set_option maxHeartbeats 2000000 in
set_option maxRecDepth 100000 in
theorem measure_lf (mb kb b : Nat) (p k : Int) (s : List UInt8) (W : World) (hm : MzAt W mb kb p) (hp : 0 < p) (h : LfAt W b k s) :
    Calls Tryz.prog 19 #[.pointer (some ⟨mb, 0, none⟩), .pointer (some ⟨b, 0, none⟩)] W fun e w' => e = .returned (.tuple #[.agg #[.int .i64 1, .int .i64 1, .int .i64 136, .int .i64 0], .bool true]) ∧ Below W.heap.size W w' := by
  have HM := Lib.hid hm
  have HL := Lib.hid h
  have hml := (mz_cell hm).2
  have hbl := h.lt
  clear hm h
  go_enter Tryz.func19, Tryz.ntmps19
  go_wp2_with fail
  refine (extent_lf b k s _ (HL.out.below (below_alloc' W _) hbl)).mono ?_
  rintro e W2 ⟨rfl, hb2⟩
  have HB2 := Lib.hid ((below_alloc' W (.cells #[.int .i64 0, .int .i64 0, .int .i64 0, .int .i64 0] 57)).trans (hb2.mono (by simp)))
  have HA2 := Lib.hid (show W2.heap[W.heap.size]? = some (.cells #[.int .i64 0, .int .i64 0, .int .i64 0, .int .i64 0] 57 (0, 0)) from (hb2.block W.heap.size (by simp)).trans (World.alloc_heap_new W _))
  have hs2 : W.heap.size < W2.heap.size := by have := hb2.size; simp at this; omega
  clear hb2
  go_wp2_with fail
  obtain ⟨W3, hW3⟩ : ∃ W3, W2.alloc (.cells #[.pointer (some ⟨b, 0, none⟩), .int .i64 0, .int .i64 1, .int .i64 1, .int .i64 136, .int .i64 0] 82) = W3 := ⟨_, rfl⟩
  have hb3 : Below W2.heap.size W2 W3 := by rw [← hW3]; exact below_alloc' _ _
  have HB3 := Lib.hid (HB2.out.trans (hb3.mono (Nat.le_of_lt hs2)))
  have HL3 := Lib.hid (HL.out.below HB3.out hbl)
  have hm3 : MzAt W3 mb kb p := (HB3.out.block mb hml).trans HM.out
  have hst : W3.heap[W2.heap.size]? = some (.cells #[.pointer (some ⟨b, 0, none⟩), .int .i64 0, .int .i64 1, .int .i64 1, .int .i64 136, .int .i64 0] 82 (0, 0)) := by rw [← hW3]; exact World.alloc_heap_new W2 _
  have s0 : W3.cell? ⟨W2.heap.size, 0, none⟩ = some (.pointer (some ⟨b, 0, none⟩)) := by simp [World.cell?, hst]
  have s1 : W3.cell? ⟨W2.heap.size, 1, none⟩ = some (.int .i64 0) := by simp [World.cell?, hst]
  have s2 : W3.cell? ⟨W2.heap.size, 2, none⟩ = some (.int .i64 1) := by simp [World.cell?, hst]
  have s3 : W3.cell? ⟨W2.heap.size, 3, none⟩ = some (.int .i64 1) := by simp [World.cell?, hst]
  have s4 : W3.cell? ⟨W2.heap.size, 4, none⟩ = some (.int .i64 136) := by simp [World.cell?, hst]
  have s5 : W3.cell? ⟨W2.heap.size, 5, none⟩ = some (.int .i64 0) := by simp [World.cell?, hst]
  have HM3 := Lib.hid hm3
  have HS3 := Lib.hid hst
  have HA3 := Lib.hid ((hb3.block W.heap.size hs2).trans HA2.out)
  have hs3 : W2.heap.size < W3.heap.size := (Array.getElem?_eq_some_iff.1 hst).1
  rw [hW3]
  clear hW3 hb3 hm3 hst
  go_loopw [5, 6] (fun u v wr => u = .bool false ∧ v = .slice (some ⟨W2.heap.size, 0, none⟩) 1 1 ∧ wr = W3) (fun _ _ _ => 0)
  case atStart => exact ⟨rfl, rfl, rfl⟩
  case round =>
    obtain ⟨rfl, rfl, rfl⟩ := hrel
    go_wp2_with fail
    go_quiet ((go_at_call 31; exact children_q b k s _ _ HL3.out))
    go_wp2_with fail
    refine region_one 9 (by kernel_rfl) (by kernel_rfl) ?_
    simp only [List.take_succ_cons, List.take_zero, List.drop_succ_cons, List.drop_zero]
    refine swk_want (by rfl) (fun K hK => ?_)
    replace hK := Lib.hid hK
    go_simp
    refine hK.out _ ?_
    clear hK K
    refine swk_want (by rfl) (fun K hK => ?_)
    replace hK := Lib.hid hK
    go_simp
    refine hK.out _ ?_
    clear hK K
    refine swk_want (by rfl) (fun K hK => ?_)
    replace hK := Lib.hid hK
    go_simp
    refine hK.out _ ?_
    clear hK K
    refine swk_want (by rfl) (fun K hK => ?_)
    replace hK := Lib.hid hK
    go_simp
    refine hK.out _ ?_
    clear hK K
    refine swk_want (by rfl) (fun K hK => ?_)
    replace hK := Lib.hid hK
    go_simp
    refine hK.out _ ?_
    clear hK K
    refine swk_want (by rfl) (fun K hK => ?_)
    replace hK := Lib.hid hK
    go_simp
    refine hK.out _ ?_
    clear hK K
    refine swk_want (by rfl) (fun K hK => ?_)
    replace hK := Lib.hid hK
    go_simp
    refine hK.out _ ?_
    clear hK K
    refine swk_want (by rfl) (fun K hK => ?_)
    replace hK := Lib.hid hK
    go_simp
    refine hK.out _ ?_
    clear hK K
    refine swk_want (by rfl) (fun K hK => ?_)
    replace hK := Lib.hid hK
    go_simp
    refine hK.out _ ?_
    clear hK K
    refine swk_nil ?_
    refine one_want rfl (by rfl) (fun K hK => ?_)
    replace hK := Lib.hid hK
    go_simp
    refine (note_lf mb kb p _ _ _ _ _ _ (show MzAt (wr.drewN (nq + 1)) mb kb p from HM3.out) hp).mono ?_
    rintro e w5 ⟨⟨v5, rfl⟩, hb5⟩
    refine hK.out _ _ ?_
    clear hK K
    simp only [List.take_succ_cons, List.take_zero, List.drop_succ_cons, List.drop_zero]
    refine swk_nil ?_
    have hb5' : Below wr.heap.size wr w5 := ⟨hb5.os, hb5.tape, hb5.output, hb5.size, hb5.block⟩
    have HB5 := Lib.hid (HB3.out.trans (hb5'.mono (by omega)))
    have q5 := fun o => hb5'.cell (p := ⟨W2.heap.size, o, none⟩) hs3
    have a5 : w5.heap[W.heap.size]? = some (.cells #[.int .i64 0, .int .i64 0, .int .i64 0, .int .i64 0] 57 (0, 0)) := (hb5'.block W.heap.size (by omega)).trans HA3.out
    have y2 := (q5 2).trans s2
    have y3 := (q5 3).trans s3
    have y4 := (q5 4).trans s4
    have y5 := (q5 5).trans s5
    have x0 : w5.cell? ⟨W.heap.size, 0, none⟩ = some (.int .i64 0) := by simp [World.cell?, a5]
    have x1 : w5.cell? ⟨W.heap.size, 1, none⟩ = some (.int .i64 0) := by simp [World.cell?, a5]
    have x2 : w5.cell? ⟨W.heap.size, 2, none⟩ = some (.int .i64 0) := by simp [World.cell?, a5]
    have x3 : w5.cell? ⟨W.heap.size, 3, none⟩ = some (.int .i64 0) := by simp [World.cell?, a5]
    have f0 : w5.frozen? ⟨W.heap.size, 0, none⟩ = false := by simp [World.frozen?, a5]
    have f1 : w5.frozen? ⟨W.heap.size, 1, none⟩ = false := by simp [World.frozen?, a5]
    have f2 : w5.frozen? ⟨W.heap.size, 2, none⟩ = false := by simp [World.frozen?, a5]
    have f3 : w5.frozen? ⟨W.heap.size, 3, none⟩ = false := by simp [World.frozen?, a5]
    have HA5 := Lib.hid a5
    clear hb5 hb5' q5 s0 s1 s2 s3 s4 s5 a5
    go_wp2_with fail
    have HA6 := Lib.hid (hp4_set HA5.out 1 1 136 0)
    refine bodyPost_ret (results_ct rfl _ _ W.heap.size 57 #[.int .i64 1, .int .i64 1, .int .i64 136, .int .i64 0] (0, 0) (.struct extFs) rfl HA6.out under_ext rfl size_ext) rfl ?_
    exact ⟨rfl, (((HB5.out.setCell (p := ⟨W.heap.size, 0, none⟩) (Nat.le_refl _) _).setCell (p := ⟨W.heap.size, 1, none⟩) (Nat.le_refl _) _).setCell (p := ⟨W.heap.size, 2, none⟩) (Nat.le_refl _) _).setCell (p := ⟨W.heap.size, 3, none⟩) (Nat.le_refl _) _⟩
end Go.Proofs.YtfcogjlojfcfkaaGreat
end

section
namespace Go.Proofs.YtfcogjlojfcfkaaGreat
open Go.RowKit Ex0 Go.Maps
attribute [local go_sem] bt_size bt_list bt_toList

theorem bind_zero (p : Option Addr) (n : Int) (a : Option Addr) (c : Nat) (W : World) : Calls Tryz.prog 80 #[.pointer p, .int .i64 n, .slice a 0 c] W fun e w' => (∃ v, e = .returned v) ∧ W = w' := by
  go_enter Tryz.func80, Tryz.ntmps80
  go_wp2_with fail
  go_loopw [10] (fun i wr => i = .int .i64 0 ∧ wr = W) (fun _ _ => 0)
  case atStart => exact ⟨rfl, rfl⟩
  case round =>
    obtain ⟨rfl, rfl⟩ := hrel
    go_wp2_with fail
    go_end0
    exact ⟨⟨_, rfl⟩, rfl⟩
theorem bindAll_zero (p : Option Addr) (n : Int) (a : Option Addr) (c : Nat) (W : World) : Calls Tryz.prog 81 #[.pointer p, .int .i64 n, .slice a 0 c] W fun e w' => (∃ v, e = .returned v) ∧ W = w' := by
  go_enter Tryz.func81, Tryz.ntmps81
  go_wp2_with fail
  go_loopw [9] (fun i wr => i = .int .i64 0 ∧ wr = W) (fun _ _ => 0)
  case atStart => exact ⟨rfl, rfl⟩
  case round =>
    obtain ⟨rfl, rfl⟩ := hrel
    go_wp2_with fail
    go_end0
    exact ⟨⟨_, rfl⟩, rfl⟩

theorem look_open (W : World) (ob : Nat) (s : List UInt8) (h : W.heap[ob]? = some (.map #[] 0)) :
    (Instr.lookup 63 (.map (some ob)) (.string (bt s)) false).run Tryz.prog W = .ok (.int .i64 0) W := by
  have hu : Tryz.prog.underlying 9 = some .string := by kernel_rfl
  have hm : Tryz.prog.underlying 63 = some (.map 9 3) := by kernel_rfl
  have hz := Tryz.zeroValue3 W
  have hc : (Instr.checkKey true 10000 9 (.string (bt s))).run Tryz.prog W = .ok () W := by
    show (Instr.checkKey true (9999 + 1) 9 (.string (bt s))).run Tryz.prog W = .ok () W
    unfold Instr.checkKey
    simp [run_underlying hu, Result.andThen]
  have hf : (Instr.findKey 9 (.string (bt s)) []).run Tryz.prog W = .ok none W := by
    unfold Instr.findKey
    simp [run_underlying hu, Instr.findNow, Result.andThen]
  unfold Instr.lookup
  simp [run_underlying hm, MapKept.run_getObj_map h, hc, hf, hz, Result.andThen]

theorem LfAt.map {W W' : World} {b fb n : Nat} {k : Int} {s : List UInt8} {P : Program} {K : TypeId} {R : Value → Option (DataW Unit × List MemPlace)} {D : DataW Unit} (h : LfAt W b k s) (hg : W.grownBy W' (some fb)) (hf : W.ownsMap P K R fb n D) : LfAt W' b k s := by
  have hne : some b ≠ some fb := by
    intro e
    cases e
    obtain ⟨es, ck, hm, _⟩ := hf
    have := h.c0
    simp [World.cell?, hm] at this
  have q := fun o v (hv : W.cell? ⟨b, o, none⟩ = some v) => hg.cell hv hne
  obtain ⟨lt, c0, c1, ⟨a4, d4, c4⟩, ⟨a5, d5, c5⟩, ⟨a6, d6, c6⟩, ⟨a7, d7, c7⟩, k6⟩ := h
  exact ⟨Nat.lt_of_lt_of_le lt hg.size, q _ _ c0, q _ _ c1, ⟨a4, d4, q _ _ c4⟩, ⟨a5, d5, q _ _ c5⟩, ⟨a6, d6, q _ _ c6⟩, ⟨a7, d7, q _ _ c7⟩, k6⟩
/-- The names that are free in an expression without parts. -/
def lfNames (k : Int) (s : List UInt8) : DataW Unit := if k == 1 then .map [(.string s, .agg [])] else .map []

set_option maxHeartbeats 4000000 in
set_option maxRecDepth 100000 in
theorem look_lf (fd ob fb b : Nat) (k : Int) (s : List UInt8) (W : World) (hfd : W.heap[fd]? = some (.cells #[.map (some ob), .map (some fb)] 129 (0, 0))) (ho : W.heap[ob]? = some (.map #[] 0)) (hne : ob ≠ fb)
    (hf : W.ownsMap Tryz.prog 9 (unitElem (H := Unit)) fb 0 (.map [])) (h : LfAt W b k s) (hsl : s.length ≤ maxLen) :
    Calls Tryz.prog 57 #[.pointer (some ⟨fd, 0, none⟩), .pointer (some ⟨b, 0, none⟩)] W fun e w' => (∃ v, e = .returned v) ∧ ∃ nn, w'.ownsMap Tryz.prog 9 (unitElem (H := Unit)) fb nn (lfNames k s) ∧ W.grownBy w' (some fb) := by
  have HL := Lib.hid h
  have HF := Lib.hid hf
  have HD := Lib.hid hfd
  have d0 : W.cell? ⟨fd, 0, none⟩ = some (.map (some ob)) := by simp [World.cell?, hfd]
  have d1 : W.cell? ⟨fd, 1, none⟩ = some (.map (some fb)) := by simp [World.cell?, hfd]
  obtain ⟨lt, c0, c1, ⟨a4, d4, c4⟩, ⟨a5, d5, c5⟩, ⟨a6, d6, c6⟩, ⟨a7, d7, c7⟩, k6⟩ := h
  have hfl := hf.lt
  clear hfd hf
  cases hk : (k == 1) with
  | true =>
    have hlk := fun n => look_open (W.drewN n) ob s ho
    go_enter Tryz.func57, Tryz.ntmps57
    go_wp2_with fail
    go_quiet (fail)
    go_wp2_with fail
    obtain ⟨W5, hrun, hown5, hg5⟩ := World.ownsMap.update (show (W.drewN (nq + 1)).ownsMap Tryz.prog 9 (unitElem (H := Unit)) fb 0 (.map []) from HF.out) (string_keyed (by kernel_rfl)) (t := 108) (e := 109) (by kernel_rfl) (by decide) (key := .string (bt s)) (val := .agg #[]) (WideMaps.keyOf_string_mk (by kernel_rfl) (by rw [bt_size]; exact hsl)) unitElem_mk
    refine region_one 9 (by kernel_rfl) (by kernel_rfl) ?_
    simp only [List.take_succ_cons, List.take_zero, List.drop_succ_cons, List.drop_zero]
    refine swk_want (by rfl) (fun K hK => ?_)
    replace hK := Lib.hid hK
    go_simp
    refine hK.out _ ?_
    clear hK K
    refine swk_want (by rfl) (fun K hK => ?_)
    replace hK := Lib.hid hK
    go_simp
    refine hK.out _ ?_
    clear hK K
    refine swk_want (by rfl) (fun K hK => ?_)
    replace hK := Lib.hid hK
    go_simp
    refine hK.out _ ?_
    clear hK K
    refine swk_want (by rfl) (fun K hK => ?_)
    replace hK := Lib.hid hK
    go_simp
    refine hK.out _ ?_
    clear hK K
    refine swk_want (by rfl) (fun K hK => ?_)
    replace hK := Lib.hid hK
    go_simp
    refine hK.out _ ?_
    clear hK K
    refine swk_want (by rfl) (fun K hK => ?_)
    replace hK := Lib.hid hK
    go_simp
    refine hK.out _ ?_
    clear hK K
    refine swk_want (by rfl) (fun K hK => ?_)
    replace hK := Lib.hid hK
    go_simp
    refine hK.out _ ?_
    clear hK K
    refine swk_want (by rfl) (fun K hK => ?_)
    replace hK := Lib.hid hK
    go_simp
    refine hK.out _ ?_
    clear hK K
    refine swk_want (by rfl) (fun K hK => ?_)
    replace hK := Lib.hid hK
    go_simp
    refine hK.out _ ?_
    clear hK K
    refine swk_nil ?_
    refine one_want rfl (by rfl) (fun K hK => ?_)
    replace hK := Lib.hid hK
    go_simp
    refine hK.out _ _ ?_
    clear hK K
    simp only [List.take_succ_cons, List.take_zero, List.drop_succ_cons, List.drop_zero]
    refine swk_nil ?_
    have hg : W.grownBy W5 (some fb) := ⟨hg5.os, hg5.tape, hg5.output, hg5.size, hg5.block⟩
    have HO5 := Lib.hid (show W5.ownsMap Tryz.prog 9 (unitElem (H := Unit)) fb (0 + 1) (lfNames k s) ∧ W.grownBy W5 (some fb) from ⟨by unfold lfNames; rw [hk]; exact hown5, hg⟩)
    have HL5 := Lib.hid (HL.out.map hg HF.out)
    have hd5 : W5.heap[fd]? = some (.cells #[.map (some ob), .map (some fb)] 129 (0, 0)) := (hg.block fd (Array.getElem?_eq_some_iff.1 HD.out).1 (fun e => by cases e; obtain ⟨es, ck, hm, _⟩ := HF.out; rw [HD.out] at hm; cases hm)).trans HD.out
    clear hrun hown5 hg5 hg hlk c0 c1 c4 c5 c6 c7 d0 d1 lt hd5
    obtain ⟨lt, c0, c1, ⟨a4, d4, c4⟩, ⟨a5, d5, c5⟩, ⟨a6, d6, c6⟩, ⟨a7, d7, c7⟩, _⟩ := HL5.out
    go_wp2_with (first
      | (go_at_call 80; refine (bind_zero _ _ _ _ _).mono ?_; rintro e w9 ⟨⟨v9, rfl⟩, rfl⟩)
      | (go_at_call 81; refine (bindAll_zero _ _ _ _ _).mono ?_; rintro e w9 ⟨⟨v9, rfl⟩, rfl⟩))
    go_loopw [49] (fun i wr => i = .int .i64 0 ∧ wr = W5) (fun _ _ => 0)
    case atStart => exact ⟨rfl, rfl⟩
    case round =>
      obtain ⟨rfl, rfl⟩ := hrel
      go_wp2_with fail
      go_loopw [66] (fun i w6 => i = .int .i64 0 ∧ w6 = wr) (fun _ _ => 0)
      case atStart => exact ⟨rfl, rfl⟩
      case round =>
        obtain ⟨rfl, rfl⟩ := hrel
        go_wp2_with (first
      | (go_at_call 80; refine (bind_zero _ _ _ _ _).mono ?_; rintro e w9 ⟨⟨v9, rfl⟩, rfl⟩)
      | (go_at_call 81; refine (bindAll_zero _ _ _ _ _).mono ?_; rintro e w9 ⟨⟨v9, rfl⟩, rfl⟩))
        go_end0
        exact ⟨⟨_, rfl⟩, _, HO5.out.1, HO5.out.2⟩
  | false =>
    go_enter Tryz.func57, Tryz.ntmps57
    go_wp2_with fail
    go_quiet (fail)
    obtain ⟨W5, hW5⟩ : ∃ W5, W.drewN nq = W5 := ⟨_, rfl⟩
    have HO5 := Lib.hid (show W5.ownsMap Tryz.prog 9 (unitElem (H := Unit)) fb 0 (lfNames k s) ∧ W.grownBy W5 (some fb) from hW5 ▸ ⟨by unfold lfNames; rw [hk]; exact HF.out, ⟨rfl, rfl, rfl, Nat.le_refl _, fun _ _ _ => rfl⟩⟩)
    have HL5 := Lib.hid (show LfAt W5 b k s from hW5 ▸ HL.out.below (B := W.heap.size) (below_same (Below.refl _ _) rfl rfl rfl rfl) HL.out.lt)
    rw [hW5]
    clear hW5 c0 c1 c4 c5 c6 c7 d0 d1 lt
    obtain ⟨lt, c0, c1, ⟨a4, d4, c4⟩, ⟨a5, d5, c5⟩, ⟨a6, d6, c6⟩, ⟨a7, d7, c7⟩, _⟩ := HL5.out
    go_wp2_with (first
      | (go_at_call 80; refine (bind_zero _ _ _ _ _).mono ?_; rintro e w9 ⟨⟨v9, rfl⟩, rfl⟩)
      | (go_at_call 81; refine (bindAll_zero _ _ _ _ _).mono ?_; rintro e w9 ⟨⟨v9, rfl⟩, rfl⟩))
    go_loopw [49] (fun i wr => i = .int .i64 0 ∧ wr = W5) (fun _ _ => 0)
    case atStart => exact ⟨rfl, rfl⟩
    case round =>
      obtain ⟨rfl, rfl⟩ := hrel
      go_wp2_with fail
      go_loopw [66] (fun i w6 => i = .int .i64 0 ∧ w6 = wr) (fun _ _ => 0)
      case atStart => exact ⟨rfl, rfl⟩
      case round =>
        obtain ⟨rfl, rfl⟩ := hrel
        go_wp2_with (first
      | (go_at_call 80; refine (bind_zero _ _ _ _ _).mono ?_; rintro e w9 ⟨⟨v9, rfl⟩, rfl⟩)
      | (go_at_call 81; refine (bindAll_zero _ _ _ _ _).mono ?_; rintro e w9 ⟨⟨v9, rfl⟩, rfl⟩))
        go_end0
        exact ⟨⟨_, rfl⟩, _, HO5.out.1, HO5.out.2⟩
end Go.Proofs.YtfcogjlojfcfkaaGreat
end
