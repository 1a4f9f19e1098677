/- The range over the chapter's three binds, from the last to the first: the iterator of slices.Backward. No condition. -/
import Derived.Test.YtkdpojmbahjdjaaLeafF
import Derived.Test.YtkdpojmbahjdjaaRange
import Derived.Test.YtkdpojmbahjdjaaOne
import Derived.Maps.OwnIn
import Derived.Sort.OwnSortedInts
namespace Go.Proofs.Ytkdpojmbahjdjaa
section
section
open Go.RowKit Ex0 Go.Maps Go.Sort Go.Shelf
attribute [local go_sem] bt_size bt_list bt_toList

/-- The cells of the three binds: a is b, b is 1, c is a. -/
def bnds : Array Value := #[.string (bt [97]), .int .i64 1, .string (bt [98]), .int .i64 0, .int .i64 0, .slice none 0 0, .slice none 0 0, .slice none 0 0, .slice none 0 0,
  .string (bt [98]), .int .i64 2, .string (bt []), .int .i64 1, .int .i64 0, .slice none 0 0, .slice none 0 0, .slice none 0 0, .slice none 0 0,
  .string (bt [99]), .int .i64 1, .string (bt [97]), .int .i64 0, .int .i64 0, .slice none 0 0, .slice none 0 0, .slice none 0 0, .slice none 0 0]
/-- A bind's value. -/
def bndV : Nat → Value
  | 0 => .agg #[.string (bt [97]), .int .i64 1, .string (bt [98]), .int .i64 0, .int .i64 0, .slice none 0 0, .slice none 0 0, .slice none 0 0, .slice none 0 0]
  | 1 => .agg #[.string (bt [98]), .int .i64 2, .string (bt []), .int .i64 1, .int .i64 0, .slice none 0 0, .slice none 0 0, .slice none 0 0, .slice none 0 0]
  | _ => .agg #[.string (bt [99]), .int .i64 1, .string (bt [97]), .int .i64 0, .int .i64 0, .slice none 0 0, .slice none 0 0, .slice none 0 0, .slice none 0 0]
def bndE (i : Nat) : Array Value := #[.int .i64 i, bndV i]

structure BndAt (W : World) (bx rb : Nat) : Prop where
  box : W.heap[bx]? = some (.cells #[.slice (some ⟨rb, 0, none⟩) 3 3] 24 (0, 0))
  row : W.heap[rb]? = some (.cells bnds 35 (0, 0))

set_option maxHeartbeats 2000000 in
set_option maxRecDepth 100000 in
theorem back_iter (bx rb : Nat) (J : Nat → World → Prop) (K : World → Prop) (l : Nat) (W : World) (hJc : ∀ n W, J n W → BndAt W bx rb) (h0 : J 0 W) (hK0 : K W)
    (hY : ∀ n i W, J n W → K W → n + i = 2 → YieldAt Fence.wide 2 Try.prog l (bndE i) W fun e W' => e = .returned (.bool true) ∧ ∃ n', n' = n + 1 ∧ J n' W' ∧ K W') :
    CallsIn Fence.wide 3 Try.prog 20 #[.func (.yield l) #[] #[], .pointer (some ⟨bx, 0, none⟩)] W fun e W' => (∃ v, e = .returned v) ∧ ∃ n, n = 3 ∧ J n W' ∧ K W' := by
  have k1 := cell_of (hJc _ _ h0).box 0 _ rfl
  refine callsIn_of_wp Try.func20 rfl trivial ?_ rfl
  simp only [Try.ntmps20, List.size_toArray, List.length_cons, List.length_nil, Nat.reduceAdd, Nat.reduceSub, Array.replicate_succ, Array.replicate_zero, List.push_toArray, List.append_toArray, List.nil_append, List.cons_append]
  gi_wp2_with fail
  gi_loopw [3] (fun i wr => ∃ n : Nat, n ≤ 3 ∧ i = .int .i64 (2 - (n : Int)) ∧ J n wr ∧ K wr) (fun i _ => (intOf i + 1).toNat)
  case atStart => exact ⟨0, by decide, rfl, h0, hK0⟩
  case round =>
    clear h0 hK0 k1
    obtain ⟨n, hn, rfl, hj, hk⟩ := hrel
    have hb := hJc _ _ hj
    have k1 := cell_of hb.box 0 _ rfl
    have kc := fun o v hv => cell_of hb.row o v hv
    match n, hn with
    | 0, _ =>
      have c0 : wr.cell? ⟨rb, 18, none⟩ = some (.string (bt [99])) := kc 18 _ rfl
      have c1 : wr.cell? ⟨rb, 19, none⟩ = some (.int .i64 1) := kc 19 _ rfl
      have c2 : wr.cell? ⟨rb, 20, none⟩ = some (.string (bt [97])) := kc 20 _ rfl
      have c3 : wr.cell? ⟨rb, 21, none⟩ = some (.int .i64 0) := kc 21 _ rfl
      have c4 : wr.cell? ⟨rb, 22, none⟩ = some (.int .i64 0) := kc 22 _ rfl
      have c5 : wr.cell? ⟨rb, 23, none⟩ = some (.slice none 0 0) := kc 23 _ rfl
      have c6 : wr.cell? ⟨rb, 24, none⟩ = some (.slice none 0 0) := kc 24 _ rfl
      have c7 : wr.cell? ⟨rb, 25, none⟩ = some (.slice none 0 0) := kc 25 _ rfl
      have c8 : wr.cell? ⟨rb, 26, none⟩ = some (.slice none 0 0) := kc 26 _ rfl
      obtain ⟨fn, tmps, assign, body, hy, hR⟩ := hY 0 2 wr hj hk rfl
      replace hy : (Instr.yield l #[.int .i64 2, .agg #[.string (bt [99]), .int .i64 1, .string (bt [97]), .int .i64 0, .int .i64 0, .slice none 0 0, .slice none 0 0, .slice none 0 0, .slice none 0 0]]).run Try.prog wr = .ok (.round l fn tmps assign body) wr := hy
      clear kc
      gi_wp2_with fail
      refine hR.mono ?_
      rintro e W3 ⟨rfl, n', rfl, hj3, hk3⟩
      have HJ3 := Lib.hid hj3
      have HK3 := Lib.hid hk3
      clear hj3 hk3 hR hy
      gi_wp2_with fail
      go_roundw
      case rel => exact ⟨0 + 1, by decide, by go_num, HJ3.out, HK3.out⟩
      case measure => simp [intOf]
    | 1, _ =>
      have c0 : wr.cell? ⟨rb, 9, none⟩ = some (.string (bt [98])) := kc 9 _ rfl
      have c1 : wr.cell? ⟨rb, 10, none⟩ = some (.int .i64 2) := kc 10 _ rfl
      have c2 : wr.cell? ⟨rb, 11, none⟩ = some (.string (bt [])) := kc 11 _ rfl
      have c3 : wr.cell? ⟨rb, 12, none⟩ = some (.int .i64 1) := kc 12 _ rfl
      have c4 : wr.cell? ⟨rb, 13, none⟩ = some (.int .i64 0) := kc 13 _ rfl
      have c5 : wr.cell? ⟨rb, 14, none⟩ = some (.slice none 0 0) := kc 14 _ rfl
      have c6 : wr.cell? ⟨rb, 15, none⟩ = some (.slice none 0 0) := kc 15 _ rfl
      have c7 : wr.cell? ⟨rb, 16, none⟩ = some (.slice none 0 0) := kc 16 _ rfl
      have c8 : wr.cell? ⟨rb, 17, none⟩ = some (.slice none 0 0) := kc 17 _ rfl
      obtain ⟨fn, tmps, assign, body, hy, hR⟩ := hY 1 1 wr hj hk rfl
      replace hy : (Instr.yield l #[.int .i64 1, .agg #[.string (bt [98]), .int .i64 2, .string (bt []), .int .i64 1, .int .i64 0, .slice none 0 0, .slice none 0 0, .slice none 0 0, .slice none 0 0]]).run Try.prog wr = .ok (.round l fn tmps assign body) wr := hy
      clear kc
      gi_wp2_with fail
      refine hR.mono ?_
      rintro e W3 ⟨rfl, n', rfl, hj3, hk3⟩
      have HJ3 := Lib.hid hj3
      have HK3 := Lib.hid hk3
      clear hj3 hk3 hR hy
      gi_wp2_with fail
      go_roundw
      case rel => exact ⟨1 + 1, by decide, by go_num, HJ3.out, HK3.out⟩
      case measure => simp [intOf]
    | 2, _ =>
      have c0 : wr.cell? ⟨rb, 0, none⟩ = some (.string (bt [97])) := kc 0 _ rfl
      have c1 : wr.cell? ⟨rb, 1, none⟩ = some (.int .i64 1) := kc 1 _ rfl
      have c2 : wr.cell? ⟨rb, 2, none⟩ = some (.string (bt [98])) := kc 2 _ rfl
      have c3 : wr.cell? ⟨rb, 3, none⟩ = some (.int .i64 0) := kc 3 _ rfl
      have c4 : wr.cell? ⟨rb, 4, none⟩ = some (.int .i64 0) := kc 4 _ rfl
      have c5 : wr.cell? ⟨rb, 5, none⟩ = some (.slice none 0 0) := kc 5 _ rfl
      have c6 : wr.cell? ⟨rb, 6, none⟩ = some (.slice none 0 0) := kc 6 _ rfl
      have c7 : wr.cell? ⟨rb, 7, none⟩ = some (.slice none 0 0) := kc 7 _ rfl
      have c8 : wr.cell? ⟨rb, 8, none⟩ = some (.slice none 0 0) := kc 8 _ rfl
      obtain ⟨fn, tmps, assign, body, hy, hR⟩ := hY 2 0 wr hj hk rfl
      replace hy : (Instr.yield l #[.int .i64 0, .agg #[.string (bt [97]), .int .i64 1, .string (bt [98]), .int .i64 0, .int .i64 0, .slice none 0 0, .slice none 0 0, .slice none 0 0, .slice none 0 0]]).run Try.prog wr = .ok (.round l fn tmps assign body) wr := hy
      clear kc
      gi_wp2_with fail
      refine hR.mono ?_
      rintro e W3 ⟨rfl, n', rfl, hj3, hk3⟩
      have HJ3 := Lib.hid hj3
      have HK3 := Lib.hid hk3
      clear hj3 hk3 hR hy
      gi_wp2_with fail
      go_roundw
      case rel => exact ⟨2 + 1, by decide, by go_num, HJ3.out, HK3.out⟩
      case measure => simp [intOf]
    | 3, _ =>
      clear kc
      have HJ3 := Lib.hid hj
      have HK3 := Lib.hid hk
      gi_wp2_with fail
      go_end0
      exact ⟨⟨_, rfl⟩, 3, rfl, HJ3.out, HK3.out⟩
end

section
open Go.RowKit Ex0 Go.Maps Go.Sort Go.Shelf
attribute [local go_sem] bt_size bt_list bt_toList

/-- The places of the last n names. -/
def mapD : Nat → DataW Unit
  | 0 => .map []
  | 1 => (DataW.map []).put (.string [99]) (.lit (.int .i64 2))
  | 2 => ((DataW.map []).put (.string [99]) (.lit (.int .i64 2))).put (.string [98]) (.lit (.int .i64 1))
  | _ => liveD

theorem backward_c (a : Option Addr) (n c : Nat) (W : World) : Calls Try.prog 13 #[.slice a n c] W fun e w' =>
    e = .returned (.func (.func 20) #[] #[.pointer (some ⟨W.heap.size, 0, none⟩)]) ∧ w' = W.alloc (.cells #[.slice a n c] 24) := by
  go_enter Try.func13, Try.ntmps13
  go_wp2_with fail
  go_ret
  exact ⟨rfl, rfl⟩

/-- The range's state: how many names have their places. -/
def FillAt (W1 : World) (mB n : Nat) (W : World) : Prop := W1.grownBy W (some mB) ∧ W.ownsMap Try.prog 9 (plainElem (H := Unit) Try.prog 3) mB n (mapD n)

theorem FillAt.own {W1 : World} {mB : Nat} (hm : mB < W1.heap.size) : OwnFrom W1.heap.size (FillAt W1 mB) := by
  rintro n A B row ⟨h1, h2⟩ hg hr
  refine ⟨⟨hg.os.trans h1.os, hg.tape.trans h1.tape, hg.output.trans h1.output, Nat.le_trans h1.size hg.size, fun i hi hne => (hg.block i (Nat.lt_of_lt_of_le hi h1.size) (fun e => by have := (hr i e.symm).1; omega)).trans (h1.block i hi hne)⟩, h2.kept hg (fun e => by have := (hr mB e.symm).1; omega)⟩

theorem FillAt.put {W1 W : World} {mB n i : Nat} {s : List UInt8} (h : FillAt W1 mB n W) (hn : n < 3) (hs : s.length ≤ maxLen) (hi : (Lit.int .i64 i).wf = true) (hD : (mapD n).put (.string s) (.lit (.int .i64 i)) = mapD (n + 1)) :
    ∃ W', (Instr.mapUpdate 44 (.map (some mB)) (.string (bt s)) (.int .i64 i)).run Try.prog W = .ok () W' ∧ FillAt W1 mB (n + 1) W' ∧ W.grownBy W' (some mB) := by
  have hu : Try.prog.underlying 3 = some (.int .i64) := by kernel_rfl
  obtain ⟨W', h1, h2, h3⟩ := h.2.update (string_keyed (by kernel_rfl)) (t := 44) (e := 3) (by kernel_rfl) (by unfold maxLen; omega) (key := .string (bt s)) (val := .int .i64 i) (kl := .string s) (by have := WideMaps.keyOf_string_mk (P := Try.prog) (k := 9) (s := bt s) (by kernel_rfl) (by rw [bt_size]; exact hs); exact this) (plainElem_int hu hi)
  exact ⟨W', h1, ⟨h.1.trans h3, hD ▸ h2⟩, h3⟩
end
end

section
open Go.RowKit Ex0 Go.Maps Go.Sort Go.Shelf
attribute [local go_sem] bt_size bt_list bt_toList Oper.semAt_some

theorem hp_at {W : World} {o : Obj} {b : Nat} (h : W.heap[b]? = some o) (z : Obj) : (W.alloc z).heap[b]? = some o := (Below.heap_alloc W z b (Array.getElem?_eq_some_iff.1 h).1).trans h
theorem hp_nw (W : World) (z : Obj) {b : Nat} (hb : W.heap.size = b) : (W.alloc z).heap[b]? = some z := hb ▸ World.alloc_heap_new W z
/-- The blocks that are there where the range begins. -/
structure LsAt (w W1 : World) (rb : Nat) : Prop where
  size : W1.heap.size = w.heap.size + 1 + 1 + 1 + 1 + 1
  box : BndAt W1 (w.heap.size + 1) rb
  bx : BndAt W1 (w.heap.size + 1 + 1 + 1 + 1) rb
  map : W1.heap[w.heap.size + 1 + 1]? = some (.map #[] 0)
  cAt : W1.heap[w.heap.size + 1 + 1 + 1]? = some (.cells #[.map (some (w.heap.size + 1 + 1))] 44 (0, 0))
  ex : W1.heap[w.heap.size]? = some (exBox 1 [97] 0 0 (.slice none 0 0) (.slice none 0 0) (.slice none 0 0) (.slice none 0 0))
  bel : Below w.heap.size w W1
theorem live_start {w W1 : World} {rb : Nat} (hr : w.heap[rb]? = some (.cells bnds 35 (0, 0))) (hW1 : W1 = ((((w.alloc (exBox 1 [97] 0 0 (.slice none 0 0) (.slice none 0 0) (.slice none 0 0) (.slice none 0 0))).alloc (.cells #[.slice (some ⟨rb, 0, none⟩) 3 3] 24)).alloc (.map #[] 0)).alloc (.cells #[.map (some (w.heap.size + 1 + 1))] 44)).alloc (.cells #[.slice (some ⟨rb, 0, none⟩) 3 3] 24)) : LsAt w W1 rb := by
  subst hW1
  have hb := fun a b c d e => hp_at (hp_at (hp_at (hp_at (hp_at hr a) b) c) d) e
  exact ⟨by simp, ⟨hp_at (hp_at (hp_at (hp_nw _ _ (by simp)) _) _) _, hb _ _ _ _ _⟩, ⟨hp_nw _ _ (by simp), hb _ _ _ _ _⟩, hp_at (hp_at (hp_nw _ _ (by simp)) _) _, hp_at (hp_nw _ _ (by simp)) _, hp_at (hp_at (hp_at (hp_at (hp_nw _ _ rfl) _) _) _) _,
    ((((below_alloc' _ _).alloc (by simp) _).alloc (by simp <;> omega) _).alloc (by simp <;> omega) _).alloc (by simp <;> omega) _⟩

theorem info_bool1 : (Try.prog.info? 4).map (fun i => (i.zero, i.size, i.bytes)) = some (some (.bool false), 1, 1) := by kernel_rfl
theorem make_bool3 (W : World) : (Instr.makeSlice 48 (.int .i64 3) (.int .i64 3)).run Try.prog W = .ok (.slice (some ⟨W.heap.size, 0, none⟩) 3 3) (W.alloc (.cells #[.bool false, .bool false, .bool false] 4)) := by
  obtain ⟨i0, hi, hz0, hz1, hz2⟩ := info_of info_bool1
  have h := run_make (P := Try.prog) W 48 4 i0 _ (by kernel_rfl) hi hz0 .i64 .i64 3 3 (by decide) (by decide) (by rw [hz2]; decide) (by decide)
  rw [hz1] at h
  have e : madeCells (Value.bool false).cells (Int.toNat 3 * 1) = #[.bool false, .bool false, .bool false] := by kernel_rfl
  rw [e] at h
  exact h

set_option maxHeartbeats 4000000 in
set_option maxRecDepth 100000 in
theorem live_c (w : World) (rb : Nat) (hr : w.heap[rb]? = some (.cells bnds 35 (0, 0))) :
    Calls Try.prog 7 #[exV 1 [97] 0 0 (.slice none 0 0) (.slice none 0 0) (.slice none 0 0) (.slice none 0 0), .slice (some ⟨rb, 0, none⟩) 3 3] w fun e w' =>
      ∃ g c, e = .returned (.slice (some ⟨g, 0, none⟩) 2 c) ∧ w'.cell? ⟨g, 0, none⟩ = some (.int .i64 0) ∧ w'.cell? ⟨g, 1, none⟩ = some (.int .i64 1) ∧ 2 ≤ c ∧ c ≤ maxLen ∧ Below w.heap.size w w' := by
  have hmx : Try.prog.follows .mixedOrders = true := by kernel_rfl
  have hmm := @run_makeMap Try.prog
  have hrl : rb < w.heap.size := (Array.getElem?_eq_some_iff.1 hr).1
  have HR := Lib.hid hr
  clear hr
  unfold exV
  refine (callsIn_wide (n := 4)).1 (callsIn_of_wp_marks Try.func7 rfl trivial (wpIn_wide.2 ?_) rfl)
  simp only [Try.ntmps7, List.size_toArray, List.length_cons, List.length_nil, Nat.reduceAdd, Nat.reduceSub, Array.replicate_succ, Array.replicate_zero, List.push_toArray, List.append_toArray, List.nil_append, List.cons_append]
  go_wp2_with fail
  go_at_call 13
  refine (backward_c _ _ _ _).mono ?_
  rintro e W1 ⟨rfl, hW1⟩
  have HS := Lib.hid (live_start HR.out hW1)
  go_wp2_with fail
  rw [← hW1]
  clear hW1
  have hsz := HS.out.size
  apply range_st (gf := 20) (lb := #[.pointer (some ⟨w.heap.size + 1 + 1 + 1 + 1, 0, none⟩)]) (encs := bndE) (J := FillAt W1 (w.heap.size + 1 + 1)) (ok := fun n i => n + i = 2) (nx := fun n _ n' => n' = n + 1) (done := fun n => n = 3) (s0 := 0)
  case hg => rfl
  case eg => exact enters_of Try.func20 (by kernel_rfl) rfl
  case hps => intro _; rfl
  case hJ => exact FillAt.own (by omega)
  case h0 => exact ⟨⟨rfl, rfl, rfl, Nat.le_refl _, fun _ _ _ => rfl⟩, ⟨#[], 0, HS.out.map, ⟨by simp, MapKept.stamped_empty 0, by simp⟩, Nat.le_refl _, rfl⟩⟩
  case hseq =>
    intro l K W2 hK hW2 hj hk hY
    exact back_iter (w.heap.size + 1 + 1 + 1 + 1) rb _ K l W2 (fun n W h => by
      have hq := HS.out.bx
      have hl := (Array.getElem?_eq_some_iff.1 hq.row).1
      exact ⟨(h.1.block _ (by omega) (by simp <;> omega)).trans hq.box, (h.1.block _ hl (by simp; omega)).trans hq.row⟩) hj hk (fun n i W h1 h2 h3 => hY n i W h1 h2 h3)
  case hassign =>
    intro l y W K hK
    simp only [bndE]
    gi_wp2
    exact hK
  case hbody =>
    intro l n i W hj hni
    have HJ := Lib.hid hj
    have hq := HS.out.box
    have hl := (Array.getElem?_eq_some_iff.1 hq.row).1
    have e1 := cell_of ((hj.1.block _ (by omega) (by simp <;> omega)).trans hq.box) 0 _ rfl
    have e2 := cell_of ((hj.1.block _ (by omega) (by simp <;> omega)).trans HS.out.cAt) 0 _ rfl
    have e3 := (hj.1.block rb hl (by simp; omega)).trans hq.row
    clear hj hq
    obtain ⟨s, g0, hs, hD⟩ : ∃ s : List UInt8, W.cell? ⟨rb, i * 9, none⟩ = some (.string (bt s)) ∧ s.length ≤ maxLen ∧ (mapD n).put (.string s) (.lit (.int .i64 i)) = mapD (n + 1) := by
      match n, i, hni with
      | 0, i, hni =>
        obtain rfl : i = 2 := by omega
        exact ⟨[99], cell_of e3 18 _ rfl, by decide, rfl⟩
      | 1, i, hni =>
        obtain rfl : i = 1 := by omega
        exact ⟨[98], cell_of e3 9 _ rfl, by decide, rfl⟩
      | 2, i, hni =>
        obtain rfl : i = 0 := by omega
        exact ⟨[97], cell_of e3 0 _ rfl, by decide, rfl⟩
      | n + 3, i, hni => omega
    have hi3 : i < 3 := by omega
    have hn3 : n < 3 := by omega
    have hwf : (Lit.int .i64 (i : Int)).wf = true := by rcases (by omega : i = 0 ∨ i = 1 ∨ i = 2) with h | h | h <;> rw [h] <;> decide
    obtain ⟨W5, hrun, hf5, hg5⟩ := FillAt.put (i := i) (s := s) (show FillAt W1 (w.heap.size + 1 + 1) n W.drew from ⟨⟨HJ.out.1.os, HJ.out.1.tape, HJ.out.1.output, HJ.out.1.size, HJ.out.1.block⟩, HJ.out.2⟩) hn3 hs hwf hD
    have HF := Lib.hid (And.intro hf5 hg5)
    have hni' : n = 2 - i := by omega
    clear e3 hD hs hf5 hg5 HJ HR
    gi_wp2
    gi_region_with_o fail
    all_goals gi_wp2
    all_goals exact ⟨(KeepsOthers.drew W).from _ |>.trans (KeepsFrom.of_grownBy HF.out.2 (fun j hj => by cases hj; omega)), _, rfl, HF.out.1⟩
  case hdone =>
    rintro D n W hD rfl hj hK
    have hq := HS.out.box
    have hl := (Array.getElem?_eq_some_iff.1 hq.row).1
    have hDl := (Array.getElem?_eq_some_iff.1 hK).1
    have hWs := hj.1.size
    have HQ := Lib.hid (show BndAt W (w.heap.size + 1) rb from ⟨(hj.1.block _ (by omega) (by simp <;> omega)).trans hq.box, (hj.1.block _ hl (by simp; omega)).trans hq.row⟩)
    have hcA := (hj.1.block _ (by omega) (by simp <;> omega)).trans HS.out.cAt
    have hcE := (hj.1.block _ (by omega) (by simp <;> omega)).trans HS.out.ex
    have e1 := cell_of HQ.out.box 0 _ rfl
    obtain ⟨W2, hW2⟩ : ∃ W2, W2 = ((W.alloc (.cells #[.bool false, .bool false, .bool false] 4)).alloc (.cells #[.slice (some ⟨W.heap.size, 0, none⟩) 3 3] 48)).alloc (.cells #[.slice none 0 0] 36) := ⟨_, rfl⟩
    have hcE2 := hp_at (hp_at (hp_at hcE (.cells #[.bool false, .bool false, .bool false] 4)) (.cells #[.slice (some ⟨W.heap.size, 0, none⟩) 3 3] 48)) (.cells #[.slice none 0 0] 36)
    have a0 := cell_of hcE2 0 _ rfl
    have a1 := cell_of hcE2 1 _ rfl
    have a2 := cell_of hcE2 2 _ rfl
    have a3 := cell_of hcE2 3 _ rfl
    have a4 := cell_of hcE2 4 _ rfl
    have a5 := cell_of hcE2 5 _ rfl
    have a6 := cell_of hcE2 6 _ rfl
    have a7 := cell_of hcE2 7 _ rfl
    have hb2 : Below W.heap.size W W2 := by
      rw [hW2]
      exact ((below_alloc' _ _).alloc (by simp) _).alloc (by simp <;> omega) _
    have HL2 := Lib.hid (show LvAt (W.heap.size + 1 + 1 + 1) W2 (w.heap.size + 1 + 1 + 1) (w.heap.size + 1 + 1) (W.heap.size + 1) W.heap.size (W.heap.size + 1 + 1) false false (.slice none 0 0) [] from by
      refine ⟨(hb2.block _ (by omega)).trans hcA, hj.2.kept (below_grow hb2) (by simp), ?_, ?_, ?_, World.ownsRow_nil _ _ _ _, by omega, ?_, by omega⟩
      · rw [hW2]; exact hp_at (hp_nw _ _ (by simp)) _
      · rw [hW2]; exact hp_at (hp_at (hp_nw _ _ rfl) _) _
      · rw [hW2]; exact hp_nw _ _ (by simp)
      · rw [hW2]; simp)
    have HB2 := Lib.hid hb2
    have HB0 := Lib.hid (show Below w.heap.size w W from HS.out.bel.grown hj.1 (by omega) (fun q hq => by cases hq; omega))
    have HMp := Lib.hid hj.2
    have HKd := Lib.hid hK
    have HA := Lib.hid hcA
    have hmk := fun W : World => make_bool3 W
    clear hj hK hq hcA hcE hmm HR hcE2 hb2
    go_wp2_with fail
    rw [← hW2]
    clear hW2 a0 a1 a2 a3 a4 a5 a6 a7 e1 hmk
    go_at_call 14
    refine (live_new (W.heap.size + 1 + 1 + 1) W.heap.size W2 _ _ _ _ _ false false _ [] HL2.out ⟨by omega, by omega, by omega⟩ (by decide) [97] (by decide) 0 (.inl ⟨rfl, rfl⟩) rfl rfl 0 0 none none none none 0 0 0 0).mono ?_
    rintro e w3 ⟨⟨v3, rfl⟩, hb3, lv3, hl3⟩
    have HB3 := Lib.hid (HB2.out.trans hb3)
    have HL3 := Lib.hid (show LvAt (W.heap.size + 1 + 1 + 1) w3 (w.heap.size + 1 + 1 + 1) (w.heap.size + 1 + 1) (W.heap.size + 1) W.heap.size (W.heap.size + 1 + 1) true false lv3 [0] from hl3)
    clear hb3 hl3 HL2 HB2
    go_wp2_with fail
    go_loopw [10] (fun i wr => Below W.heap.size W wr ∧ ∃ lv, (i = .int .i64 0 ∧ LvAt (W.heap.size + 1 + 1 + 1) wr (w.heap.size + 1 + 1 + 1) (w.heap.size + 1 + 1) (W.heap.size + 1) W.heap.size (W.heap.size + 1 + 1) true false lv [0]) ∨
      ((i = .int .i64 1 ∨ i = .int .i64 2) ∧ LvAt (W.heap.size + 1 + 1 + 1) wr (w.heap.size + 1 + 1 + 1) (w.heap.size + 1 + 1) (W.heap.size + 1) W.heap.size (W.heap.size + 1 + 1) true true lv [0, 1])) (fun i _ => 2 - (intOf i).toNat)
    case atStart => exact ⟨HB3.out, lv3, .inl ⟨rfl, HL3.out⟩⟩
    case round =>
      clear HL3 HB3
      obtain ⟨hbr, lv, ⟨rfl, hlr⟩ | ⟨rfl | rfl, hlr⟩⟩ := hrel
      · obtain ⟨g, c, rfl⟩ := own_form hlr.row
        have hwl := hbr.size
        have k0 := cell_of hlr.cLv 0 _ rfl
        have k1 := cell_of ((hbr.block _ (by omega)).trans HQ.out.box) 0 _ rfl
        have k2 : wr.cell? ⟨g, 0, none⟩ = some (.int .i64 0) := by
          have := hlr.row.cells (g := g) rfl 0 (.int .i64 0) rfl
          simpa [Addr.add] using this
        have hrow := (hbr.block rb (by omega)).trans HQ.out.row
        have b0 : wr.cell? ⟨rb, 1, none⟩ = some (.int .i64 1) := cell_of hrow 1 _ rfl
        have b1 : wr.cell? ⟨rb, 2, none⟩ = some (.string (bt [98])) := cell_of hrow 2 _ rfl
        have b2 : wr.cell? ⟨rb, 3, none⟩ = some (.int .i64 0) := cell_of hrow 3 _ rfl
        have b3 : wr.cell? ⟨rb, 4, none⟩ = some (.int .i64 0) := cell_of hrow 4 _ rfl
        have b4 : wr.cell? ⟨rb, 5, none⟩ = some (.slice none 0 0) := cell_of hrow 5 _ rfl
        have b5 : wr.cell? ⟨rb, 6, none⟩ = some (.slice none 0 0) := cell_of hrow 6 _ rfl
        have b6 : wr.cell? ⟨rb, 7, none⟩ = some (.slice none 0 0) := cell_of hrow 7 _ rfl
        have b7 : wr.cell? ⟨rb, 8, none⟩ = some (.slice none 0 0) := cell_of hrow 8 _ rfl
        have hbd : Below wr.heap.size wr wr.drew := (Below.refl _ _).drew
        have HLr := Lib.hid (hlr.below hbd)
        have HBr := Lib.hid hbr
        clear hrow hlr hbr hbd
        go_wp2_with fail
        refine region_one 9 (by kernel_rfl) (by kernel_rfl) ?_
        simp only [List.take_succ_cons, List.take_zero, List.drop_succ_cons, List.drop_zero]
        refine swk_want (by rfl) (fun K hK => ?_)
        replace hK := Lib.hid hK
        go_simp
        refine hK.out _ ?_
        clear hK K
        refine swk_want (by rfl) (fun K hK => ?_)
        replace hK := Lib.hid hK
        go_simp
        refine hK.out _ ?_
        clear hK K
        refine swk_want (by rfl) (fun K hK => ?_)
        replace hK := Lib.hid hK
        go_simp
        refine hK.out _ ?_
        clear hK K
        refine swk_want (by rfl) (fun K hK => ?_)
        replace hK := Lib.hid hK
        go_simp
        refine hK.out _ ?_
        clear hK K
        refine swk_want (by rfl) (fun K hK => ?_)
        replace hK := Lib.hid hK
        go_simp
        refine hK.out _ ?_
        clear hK K
        refine swk_want (by rfl) (fun K hK => ?_)
        replace hK := Lib.hid hK
        go_simp
        refine hK.out _ ?_
        clear hK K
        refine swk_want (by rfl) (fun K hK => ?_)
        replace hK := Lib.hid hK
        go_simp
        refine hK.out _ ?_
        clear hK K
        refine swk_want (by rfl) (fun K hK => ?_)
        replace hK := Lib.hid hK
        go_simp
        refine hK.out _ ?_
        clear hK K
        refine swk_want (by rfl) (fun K hK => ?_)
        replace hK := Lib.hid hK
        go_simp
        refine hK.out _ ?_
        clear hK K
        refine swk_nil ?_
        refine one_want rfl (by rfl) (fun K hK => ?_)
        replace hK := Lib.hid hK
        go_simp
        refine (live_new (W.heap.size + 1 + 1 + 1) W.heap.size wr.drew _ _ _ _ _ true false _ [0] HLr.out ⟨by omega, by omega, by omega⟩ (by decide) [98] (by decide) 1 (.inr ⟨rfl, rfl⟩) rfl rfl 0 0 none none none none 0 0 0 0).mono ?_
        rintro e w5 ⟨⟨v5, rfl⟩, hb5, lv5, hl5⟩
        refine hK.out _ _ ?_
        clear hK K
        have HB5 := Lib.hid ((HBr.out.drew).trans hb5)
        have HL5 := Lib.hid (show LvAt (W.heap.size + 1 + 1 + 1) w5 (w.heap.size + 1 + 1 + 1) (w.heap.size + 1 + 1) (W.heap.size + 1) W.heap.size (W.heap.size + 1 + 1) true true lv5 [0, 1] from hl5)
        clear hb5 hl5 k0 k1 k2 b0 b1 b2 b3 b4 b5 b6 b7
        simp only [List.take_succ_cons, List.take_zero, List.drop_succ_cons, List.drop_zero]
        refine swk_nil ?_
        go_wp2_with fail
        go_roundw
        case rel => exact ⟨HB5.out, lv5, .inr ⟨.inl rfl, HL5.out⟩⟩
        case measure => simp [intOf]
      · obtain ⟨g, c, rfl⟩ := own_form hlr.row
        have hwl := hbr.size
        have k0 := cell_of hlr.cLv 0 _ rfl
        have k1 := cell_of ((hbr.block _ (by omega)).trans HQ.out.box) 0 _ rfl
        have k2 : wr.cell? ⟨g, 1, none⟩ = some (.int .i64 1) := by
          have := hlr.row.cells (g := g) rfl 1 (.int .i64 1) rfl
          simpa [Addr.add] using this
        have hrow := (hbr.block rb (by omega)).trans HQ.out.row
        have b0 : wr.cell? ⟨rb, 10, none⟩ = some (.int .i64 2) := cell_of hrow 10 _ rfl
        have b1 : wr.cell? ⟨rb, 11, none⟩ = some (.string (bt [])) := cell_of hrow 11 _ rfl
        have b2 : wr.cell? ⟨rb, 12, none⟩ = some (.int .i64 1) := cell_of hrow 12 _ rfl
        have b3 : wr.cell? ⟨rb, 13, none⟩ = some (.int .i64 0) := cell_of hrow 13 _ rfl
        have b4 : wr.cell? ⟨rb, 14, none⟩ = some (.slice none 0 0) := cell_of hrow 14 _ rfl
        have b5 : wr.cell? ⟨rb, 15, none⟩ = some (.slice none 0 0) := cell_of hrow 15 _ rfl
        have b6 : wr.cell? ⟨rb, 16, none⟩ = some (.slice none 0 0) := cell_of hrow 16 _ rfl
        have b7 : wr.cell? ⟨rb, 17, none⟩ = some (.slice none 0 0) := cell_of hrow 17 _ rfl
        have hbd : Below wr.heap.size wr wr.drew := (Below.refl _ _).drew
        have HLr := Lib.hid (hlr.below hbd)
        have HBr := Lib.hid hbr
        clear hrow hlr hbr hbd
        go_wp2_with fail
        refine region_one 9 (by kernel_rfl) (by kernel_rfl) ?_
        simp only [List.take_succ_cons, List.take_zero, List.drop_succ_cons, List.drop_zero]
        refine swk_want (by rfl) (fun K hK => ?_)
        replace hK := Lib.hid hK
        go_simp
        refine hK.out _ ?_
        clear hK K
        refine swk_want (by rfl) (fun K hK => ?_)
        replace hK := Lib.hid hK
        go_simp
        refine hK.out _ ?_
        clear hK K
        refine swk_want (by rfl) (fun K hK => ?_)
        replace hK := Lib.hid hK
        go_simp
        refine hK.out _ ?_
        clear hK K
        refine swk_want (by rfl) (fun K hK => ?_)
        replace hK := Lib.hid hK
        go_simp
        refine hK.out _ ?_
        clear hK K
        refine swk_want (by rfl) (fun K hK => ?_)
        replace hK := Lib.hid hK
        go_simp
        refine hK.out _ ?_
        clear hK K
        refine swk_want (by rfl) (fun K hK => ?_)
        replace hK := Lib.hid hK
        go_simp
        refine hK.out _ ?_
        clear hK K
        refine swk_want (by rfl) (fun K hK => ?_)
        replace hK := Lib.hid hK
        go_simp
        refine hK.out _ ?_
        clear hK K
        refine swk_want (by rfl) (fun K hK => ?_)
        replace hK := Lib.hid hK
        go_simp
        refine hK.out _ ?_
        clear hK K
        refine swk_want (by rfl) (fun K hK => ?_)
        replace hK := Lib.hid hK
        go_simp
        refine hK.out _ ?_
        clear hK K
        refine swk_nil ?_
        refine one_want rfl (by rfl) (fun K hK => ?_)
        replace hK := Lib.hid hK
        go_simp
        refine (live_none 2 [] 1 0 none none none none 0 0 0 0 _ _ _ wr.drew rfl rfl (by decide)).mono ?_
        rintro e w5 ⟨⟨v5, rfl⟩, hb5⟩
        refine hK.out _ _ ?_
        clear hK K
        have HB5 := Lib.hid ((HBr.out.drew).trans (hb5.mono (show W.heap.size ≤ wr.drew.heap.size from hwl)))
        have HL5 := Lib.hid (HLr.out.below hb5)
        clear hb5 k0 k1 k2 b0 b1 b2 b3 b4 b5 b6 b7
        simp only [List.take_succ_cons, List.take_zero, List.drop_succ_cons, List.drop_zero]
        refine swk_nil ?_
        go_wp2_with fail
        go_roundw
        case rel => exact ⟨HB5.out, _, .inr ⟨.inr rfl, HL5.out⟩⟩
        case measure => simp [intOf]
      · obtain ⟨g, c, rfl⟩ := own_form hlr.row
        have hwl := hbr.size
        have k0 := cell_of hlr.cLv 0 _ rfl
        obtain ⟨hlen, hx | ⟨g', cap, cur, hv, hg, hh, hl1, hl2, hcs, htk⟩⟩ := hlr.row
        · cases hx.1
        cases hv
        have hsort := AnyM.slices_Sort_int Try.laidSortI g 0 c [0, 1] wr (holds_of_blockI hh htk) (Array.getElem?_eq_some_iff.1 hh).1 (by decide)
        have hms : ([0, 1] : List Int).mergeSort (fun x y => decide (x ≤ y)) = [0, 1] := by first | exact List.mergeSort_of_pairwise (by simp) | exact List.mergeSort_of_sorted (by simp)
        rw [hms] at hsort
        have hlv : W.heap.size + 1 + 1 < wr.heap.size := by have := hlr.bB; omega
        have HLr := Lib.hid hlr
        have HBr := Lib.hid hbr
        clear hlr hbr
        go_wp2_with fail
        refine hsort.mono ?_
        clear hsort
        rintro e w6 ⟨rfl, n6, os6, hw6⟩
        have hgb : wr.grownBy w6 (some g) := by rw [hw6]; exact grownBy_sortedI _
        have hrow6 : w6.ownsRow (W.heap.size + 1 + 1 + 1) 3 1 (.slice (some ⟨g, 0, none⟩) 2 c) 2 [.int .i64 0, .int .i64 1] := by
          rw [hw6]
          exact ownsRow_sortedI (ss := [0, 1]) (ts := [0, 1]) rfl hg hh hl1 hl2 hcs
        have k6 := cell_of ((hgb.block (W.heap.size + 1 + 1) hlv (by simp; omega)).trans HLr.out.cLv) 0 _ rfl
        have hD6 := (hgb.block D (by omega) (by simp; omega)).trans ((HBr.out.block D hDl).trans HKd.out)
        have z0 : w6.cell? ⟨g, 0, none⟩ = some (.int .i64 0) := by
          have := hrow6.cells (g := g) rfl 0 (.int .i64 0) rfl
          simpa [Addr.add] using this
        have z1 : w6.cell? ⟨g, 1, none⟩ = some (.int .i64 1) := by
          have := hrow6.cells (g := g) rfl 1 (.int .i64 1) rfl
          simpa [Addr.add] using this
        have HB6 := Lib.hid (HB0.out.trans ((HBr.out.grown hgb hwl (fun q hq => by cases hq; omega)).mono HB0.out.size))
        have HD6 := Lib.hid hD6
        have hgl : g < w6.heap.size := (hrow6.lt g rfl).2
        clear hgb hrow6 hw6 hh hcs htk hms k0 hD6
        go_wp2_with fail
        have hpo := grownBy_putObj' w6 D (.deferred none)
        have hpg := hpo.block g hgl (by simp; omega)
        exact ⟨by simp, .inl ⟨_, _, rfl, run_takeDeferred HD6.out, _, results_tmp rfl _ _ _, g, c, rfl, (World.cell?_of_block (w := w6) (a := ⟨g, 0, none⟩) hpg).trans z0, (World.cell?_of_block (w := w6) (a := ⟨g, 1, none⟩) hpg).trans z1, hl1, hl2, HB6.out.grown hpo HB6.out.size (fun q hq => by cases hq; omega)⟩⟩
end
end Go.Proofs.Ytkdpojmbahjdjaa
