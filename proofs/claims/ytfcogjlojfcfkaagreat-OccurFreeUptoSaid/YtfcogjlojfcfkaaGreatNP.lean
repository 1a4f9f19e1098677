/- The range over the chapter's three binds, from the last to the first: the iterator of slices.Backward. No condition. -/
import Derived.Test.YtfcogjlojfcfkaaGreatMU
import Derived.Test.YtfcogjlojfcfkaaGreatMP
import Derived.Test.YtfcogjlojfcfkaaGreatMR
import Derived.Maps.OwnIn
namespace Go.Proofs.YtfcogjlojfcfkaaGreat
section
open Go.RowKit Ex0 Go.Maps Go.Sort Go.Shelf
attribute [local go_sem] bt_size bt_list bt_toList

/-- The cells of the three binds: a is b, b is 1, c is a. -/
def bnds : Array Value := #[.string (bt [97]), .int .i64 1, .string (bt [98]), .int .i64 0, .int .i64 0, .slice none 0 0, .slice none 0 0, .slice none 0 0, .slice none 0 0,
  .string (bt [98]), .int .i64 2, .string (bt []), .int .i64 1, .int .i64 0, .slice none 0 0, .slice none 0 0, .slice none 0 0, .slice none 0 0,
  .string (bt [99]), .int .i64 1, .string (bt [97]), .int .i64 0, .int .i64 0, .slice none 0 0, .slice none 0 0, .slice none 0 0, .slice none 0 0]
/-- A bind's value. -/
def bndV : Nat → Value
  | 0 => .agg #[.string (bt [97]), .int .i64 1, .string (bt [98]), .int .i64 0, .int .i64 0, .slice none 0 0, .slice none 0 0, .slice none 0 0, .slice none 0 0]
  | 1 => .agg #[.string (bt [98]), .int .i64 2, .string (bt []), .int .i64 1, .int .i64 0, .slice none 0 0, .slice none 0 0, .slice none 0 0, .slice none 0 0]
  | _ => .agg #[.string (bt [99]), .int .i64 1, .string (bt [97]), .int .i64 0, .int .i64 0, .slice none 0 0, .slice none 0 0, .slice none 0 0, .slice none 0 0]
def bndE (i : Nat) : Array Value := #[.int .i64 i, bndV i]

structure BndAt (W : World) (bx rb : Nat) : Prop where
  box : W.heap[bx]? = some (.cells #[.slice (some ⟨rb, 0, none⟩) 3 3] 24 (0, 0))
  row : W.heap[rb]? = some (.cells bnds 38 (0, 0))

set_option maxHeartbeats 2000000 in
set_option maxRecDepth 100000 in
theorem back_iter (bx rb : Nat) (J : Nat → World → Prop) (K : World → Prop) (l : Nat) (W : World) (hJc : ∀ n W, J n W → BndAt W bx rb) (h0 : J 0 W) (hK0 : K W)
    (hY : ∀ n i W, J n W → K W → n + i = 2 → YieldAt Fence.wide 2 Tryz.prog l (bndE i) W fun e W' => e = .returned (.bool true) ∧ ∃ n', n' = n + 1 ∧ J n' W' ∧ K W') :
    CallsIn Fence.wide 3 Tryz.prog 45 #[.func (.yield l) #[] #[], .pointer (some ⟨bx, 0, none⟩)] W fun e W' => (∃ v, e = .returned v) ∧ ∃ n, n = 3 ∧ J n W' ∧ K W' := by
  have k1 := cell_of (hJc _ _ h0).box 0 _ rfl
  refine callsIn_of_wp Tryz.func45 rfl trivial ?_ rfl
  simp only [Tryz.ntmps45, List.size_toArray, List.length_cons, List.length_nil, Nat.reduceAdd, Nat.reduceSub, Array.replicate_succ, Array.replicate_zero, List.push_toArray, List.append_toArray, List.nil_append, List.cons_append]
  gi_wp2_with fail
  gi_loopw [3] (fun i wr => ∃ n : Nat, n ≤ 3 ∧ i = .int .i64 (2 - (n : Int)) ∧ J n wr ∧ K wr) (fun i _ => (intOf i + 1).toNat)
  case atStart => exact ⟨0, by decide, rfl, h0, hK0⟩
  case round =>
    clear h0 hK0 k1
    obtain ⟨n, hn, rfl, hj, hk⟩ := hrel
    have hb := hJc _ _ hj
    have k1 := cell_of hb.box 0 _ rfl
    have kc := fun o v hv => cell_of hb.row o v hv
    match n, hn with
    | 0, _ =>
      have c0 : wr.cell? ⟨rb, 18, none⟩ = some (.string (bt [99])) := kc 18 _ rfl
      have c1 : wr.cell? ⟨rb, 19, none⟩ = some (.int .i64 1) := kc 19 _ rfl
      have c2 : wr.cell? ⟨rb, 20, none⟩ = some (.string (bt [97])) := kc 20 _ rfl
      have c3 : wr.cell? ⟨rb, 21, none⟩ = some (.int .i64 0) := kc 21 _ rfl
      have c4 : wr.cell? ⟨rb, 22, none⟩ = some (.int .i64 0) := kc 22 _ rfl
      have c5 : wr.cell? ⟨rb, 23, none⟩ = some (.slice none 0 0) := kc 23 _ rfl
      have c6 : wr.cell? ⟨rb, 24, none⟩ = some (.slice none 0 0) := kc 24 _ rfl
      have c7 : wr.cell? ⟨rb, 25, none⟩ = some (.slice none 0 0) := kc 25 _ rfl
      have c8 : wr.cell? ⟨rb, 26, none⟩ = some (.slice none 0 0) := kc 26 _ rfl
      obtain ⟨fn, tmps, assign, body, hy, hR⟩ := hY 0 2 wr hj hk rfl
      replace hy : (Instr.yield l #[.int .i64 2, .agg #[.string (bt [99]), .int .i64 1, .string (bt [97]), .int .i64 0, .int .i64 0, .slice none 0 0, .slice none 0 0, .slice none 0 0, .slice none 0 0]]).run Tryz.prog wr = .ok (.round l fn tmps assign body) wr := hy
      clear kc
      gi_wp2_with fail
      refine hR.mono ?_
      rintro e W3 ⟨rfl, n', rfl, hj3, hk3⟩
      have HJ3 := Lib.hid hj3
      have HK3 := Lib.hid hk3
      clear hj3 hk3 hR hy
      gi_wp2_with fail
      go_roundw
      case rel => exact ⟨0 + 1, by decide, by go_num, HJ3.out, HK3.out⟩
      case measure => simp [intOf]
    | 1, _ =>
      have c0 : wr.cell? ⟨rb, 9, none⟩ = some (.string (bt [98])) := kc 9 _ rfl
      have c1 : wr.cell? ⟨rb, 10, none⟩ = some (.int .i64 2) := kc 10 _ rfl
      have c2 : wr.cell? ⟨rb, 11, none⟩ = some (.string (bt [])) := kc 11 _ rfl
      have c3 : wr.cell? ⟨rb, 12, none⟩ = some (.int .i64 1) := kc 12 _ rfl
      have c4 : wr.cell? ⟨rb, 13, none⟩ = some (.int .i64 0) := kc 13 _ rfl
      have c5 : wr.cell? ⟨rb, 14, none⟩ = some (.slice none 0 0) := kc 14 _ rfl
      have c6 : wr.cell? ⟨rb, 15, none⟩ = some (.slice none 0 0) := kc 15 _ rfl
      have c7 : wr.cell? ⟨rb, 16, none⟩ = some (.slice none 0 0) := kc 16 _ rfl
      have c8 : wr.cell? ⟨rb, 17, none⟩ = some (.slice none 0 0) := kc 17 _ rfl
      obtain ⟨fn, tmps, assign, body, hy, hR⟩ := hY 1 1 wr hj hk rfl
      replace hy : (Instr.yield l #[.int .i64 1, .agg #[.string (bt [98]), .int .i64 2, .string (bt []), .int .i64 1, .int .i64 0, .slice none 0 0, .slice none 0 0, .slice none 0 0, .slice none 0 0]]).run Tryz.prog wr = .ok (.round l fn tmps assign body) wr := hy
      clear kc
      gi_wp2_with fail
      refine hR.mono ?_
      rintro e W3 ⟨rfl, n', rfl, hj3, hk3⟩
      have HJ3 := Lib.hid hj3
      have HK3 := Lib.hid hk3
      clear hj3 hk3 hR hy
      gi_wp2_with fail
      go_roundw
      case rel => exact ⟨1 + 1, by decide, by go_num, HJ3.out, HK3.out⟩
      case measure => simp [intOf]
    | 2, _ =>
      have c0 : wr.cell? ⟨rb, 0, none⟩ = some (.string (bt [97])) := kc 0 _ rfl
      have c1 : wr.cell? ⟨rb, 1, none⟩ = some (.int .i64 1) := kc 1 _ rfl
      have c2 : wr.cell? ⟨rb, 2, none⟩ = some (.string (bt [98])) := kc 2 _ rfl
      have c3 : wr.cell? ⟨rb, 3, none⟩ = some (.int .i64 0) := kc 3 _ rfl
      have c4 : wr.cell? ⟨rb, 4, none⟩ = some (.int .i64 0) := kc 4 _ rfl
      have c5 : wr.cell? ⟨rb, 5, none⟩ = some (.slice none 0 0) := kc 5 _ rfl
      have c6 : wr.cell? ⟨rb, 6, none⟩ = some (.slice none 0 0) := kc 6 _ rfl
      have c7 : wr.cell? ⟨rb, 7, none⟩ = some (.slice none 0 0) := kc 7 _ rfl
      have c8 : wr.cell? ⟨rb, 8, none⟩ = some (.slice none 0 0) := kc 8 _ rfl
      obtain ⟨fn, tmps, assign, body, hy, hR⟩ := hY 2 0 wr hj hk rfl
      replace hy : (Instr.yield l #[.int .i64 0, .agg #[.string (bt [97]), .int .i64 1, .string (bt [98]), .int .i64 0, .int .i64 0, .slice none 0 0, .slice none 0 0, .slice none 0 0, .slice none 0 0]]).run Tryz.prog wr = .ok (.round l fn tmps assign body) wr := hy
      clear kc
      gi_wp2_with fail
      refine hR.mono ?_
      rintro e W3 ⟨rfl, n', rfl, hj3, hk3⟩
      have HJ3 := Lib.hid hj3
      have HK3 := Lib.hid hk3
      clear hj3 hk3 hR hy
      gi_wp2_with fail
      go_roundw
      case rel => exact ⟨2 + 1, by decide, by go_num, HJ3.out, HK3.out⟩
      case measure => simp [intOf]
    | 3, _ =>
      clear kc
      have HJ3 := Lib.hid hj
      have HK3 := Lib.hid hk
      gi_wp2_with fail
      go_end0
      exact ⟨⟨_, rfl⟩, 3, rfl, HJ3.out, HK3.out⟩
end

section
open Go.RowKit Ex0 Go.Maps Go.Sort Go.Shelf
attribute [local go_sem] bt_size bt_list bt_toList

/-- The places of the last n names. -/
def mapD : Nat → DataW Unit
  | 0 => .map []
  | 1 => (DataW.map []).put (.string [99]) (.lit (.int .i64 2))
  | 2 => ((DataW.map []).put (.string [99]) (.lit (.int .i64 2))).put (.string [98]) (.lit (.int .i64 1))
  | _ => liveD

theorem backward_c (a : Option Addr) (n c : Nat) (W : World) : Calls Tryz.prog 23 #[.slice a n c] W fun e w' =>
    e = .returned (.func (.func 45) #[] #[.pointer (some ⟨W.heap.size, 0, none⟩)]) ∧ w' = W.alloc (.cells #[.slice a n c] 24) := by
  go_enter Tryz.func23, Tryz.ntmps23
  go_wp2_with fail
  go_ret
  exact ⟨rfl, rfl⟩

/-- The range's state: how many names have their places. -/
def FillAt (W1 : World) (mB n : Nat) (W : World) : Prop := W1.grownBy W (some mB) ∧ W.ownsMap Tryz.prog 9 (plainElem (H := Unit) Tryz.prog 3) mB n (mapD n)

theorem FillAt.own {W1 : World} {mB : Nat} (hm : mB < W1.heap.size) : OwnFrom W1.heap.size (FillAt W1 mB) := by
  rintro n A B row ⟨h1, h2⟩ hg hr
  refine ⟨⟨hg.os.trans h1.os, hg.tape.trans h1.tape, hg.output.trans h1.output, Nat.le_trans h1.size hg.size, fun i hi hne => (hg.block i (Nat.lt_of_lt_of_le hi h1.size) (fun e => by have := (hr i e.symm).1; omega)).trans (h1.block i hi hne)⟩, h2.kept hg (fun e => by have := (hr mB e.symm).1; omega)⟩

theorem FillAt.put {W1 W : World} {mB n i : Nat} {s : List UInt8} (h : FillAt W1 mB n W) (hn : n < 3) (hs : s.length ≤ maxLen) (hi : (Lit.int .i64 i).wf = true) (hD : (mapD n).put (.string s) (.lit (.int .i64 i)) = mapD (n + 1)) :
    ∃ W', (Instr.mapUpdate 63 (.map (some mB)) (.string (bt s)) (.int .i64 i)).run Tryz.prog W = .ok () W' ∧ FillAt W1 mB (n + 1) W' ∧ W.grownBy W' (some mB) := by
  have hu : Tryz.prog.underlying 3 = some (.int .i64) := by kernel_rfl
  obtain ⟨W', h1, h2, h3⟩ := h.2.update (string_keyed (by kernel_rfl)) (t := 63) (e := 3) (by kernel_rfl) (by unfold maxLen; omega) (key := .string (bt s)) (val := .int .i64 i) (kl := .string s) (by have := WideMaps.keyOf_string_mk (P := Tryz.prog) (k := 9) (s := bt s) (by kernel_rfl) (by rw [bt_size]; exact hs); exact this) (plainElem_int hu hi)
  exact ⟨W', h1, ⟨h.1.trans h3, hD ▸ h2⟩, h3⟩
end
end Go.Proofs.YtfcogjlojfcfkaaGreat
