/- The free names of an expression without parts: looking for them. No condition. -/
import Derived.Test.YtkdpojmbahjdjaaLeafM
import Derived.Maps.OwnSet
namespace Go.Proofs.Ytkdpojmbahjdjaa
open Go.RowKit Ex0 Go.Maps
attribute [local go_sem] bt_size bt_list bt_toList

theorem bind_zero (p : Option Addr) (n : Int) (a : Option Addr) (c : Nat) (W : World) : Calls Try.prog 75 #[.pointer p, .int .i64 n, .slice a 0 c] W fun e w' => (∃ v, e = .returned v) ∧ W = w' := by
  go_enter Try.func75, Try.ntmps75
  go_wp2_with fail
  go_loopw [10] (fun i wr => i = .int .i64 0 ∧ wr = W) (fun _ _ => 0)
  case atStart => exact ⟨rfl, rfl⟩
  case round =>
    obtain ⟨rfl, rfl⟩ := hrel
    go_wp2_with fail
    go_end0
    exact ⟨⟨_, rfl⟩, rfl⟩
theorem bindAll_zero (p : Option Addr) (n : Int) (a : Option Addr) (c : Nat) (W : World) : Calls Try.prog 76 #[.pointer p, .int .i64 n, .slice a 0 c] W fun e w' => (∃ v, e = .returned v) ∧ W = w' := by
  go_enter Try.func76, Try.ntmps76
  go_wp2_with fail
  go_loopw [9] (fun i wr => i = .int .i64 0 ∧ wr = W) (fun _ _ => 0)
  case atStart => exact ⟨rfl, rfl⟩
  case round =>
    obtain ⟨rfl, rfl⟩ := hrel
    go_wp2_with fail
    go_end0
    exact ⟨⟨_, rfl⟩, rfl⟩

theorem look_open (W : World) (ob : Nat) (s : List UInt8) (h : W.heap[ob]? = some (.map #[] 0)) :
    (Instr.lookup 44 (.map (some ob)) (.string (bt s)) false).run Try.prog W = .ok (.int .i64 0) W := by
  have hu : Try.prog.underlying 9 = some .string := by kernel_rfl
  have hm : Try.prog.underlying 44 = some (.map 9 3) := by kernel_rfl
  have hz := Try.zeroValue3 W
  have hc : (Instr.checkKey true 10000 9 (.string (bt s))).run Try.prog W = .ok () W := by
    show (Instr.checkKey true (9999 + 1) 9 (.string (bt s))).run Try.prog W = .ok () W
    unfold Instr.checkKey
    simp [run_underlying hu, Result.andThen]
  have hf : (Instr.findKey 9 (.string (bt s)) []).run Try.prog W = .ok none W := by
    unfold Instr.findKey
    simp [run_underlying hu, Instr.findNow, Result.andThen]
  unfold Instr.lookup
  simp [run_underlying hm, MapKept.run_getObj_map h, hc, hf, hz, Result.andThen]

theorem LfAt.map {W W' : World} {b fb n : Nat} {k : Int} {s : List UInt8} {P : Program} {K : TypeId} {R : Value → Option (DataW Unit × List MemPlace)} {D : DataW Unit} (h : LfAt W b k s) (hg : W.grownBy W' (some fb)) (hf : W.ownsMap P K R fb n D) : LfAt W' b k s := by
  have hne : some b ≠ some fb := by
    intro e
    cases e
    obtain ⟨es, ck, hm, _⟩ := hf
    have := h.c0
    simp [World.cell?, hm] at this
  have q := fun o v (hv : W.cell? ⟨b, o, none⟩ = some v) => hg.cell hv hne
  obtain ⟨lt, c0, c1, ⟨a4, d4, c4⟩, ⟨a5, d5, c5⟩, ⟨a6, d6, c6⟩, ⟨a7, d7, c7⟩, k6⟩ := h
  exact ⟨Nat.lt_of_lt_of_le lt hg.size, q _ _ c0, q _ _ c1, ⟨a4, d4, q _ _ c4⟩, ⟨a5, d5, q _ _ c5⟩, ⟨a6, d6, q _ _ c6⟩, ⟨a7, d7, q _ _ c7⟩, k6⟩
/-- The names that are free in an expression without parts. -/
def lfNames (k : Int) (s : List UInt8) : DataW Unit := if k == 1 then .map [(.string s, .agg [])] else .map []

set_option maxHeartbeats 4000000 in
set_option maxRecDepth 100000 in
theorem look_lf (fd ob fb b : Nat) (k : Int) (s : List UInt8) (W : World) (hfd : W.heap[fd]? = some (.cells #[.map (some ob), .map (some fb)] 131 (0, 0))) (ho : W.heap[ob]? = some (.map #[] 0)) (hne : ob ≠ fb)
    (hf : W.ownsMap Try.prog 9 (unitElem (H := Unit)) fb 0 (.map [])) (h : LfAt W b k s) (hsl : s.length ≤ maxLen) :
    Calls Try.prog 57 #[.pointer (some ⟨fd, 0, none⟩), .pointer (some ⟨b, 0, none⟩)] W fun e w' => (∃ v, e = .returned v) ∧ ∃ nn, w'.ownsMap Try.prog 9 (unitElem (H := Unit)) fb nn (lfNames k s) ∧ W.grownBy w' (some fb) := by
  have HL := Lib.hid h
  have HF := Lib.hid hf
  have HD := Lib.hid hfd
  have d0 : W.cell? ⟨fd, 0, none⟩ = some (.map (some ob)) := by simp [World.cell?, hfd]
  have d1 : W.cell? ⟨fd, 1, none⟩ = some (.map (some fb)) := by simp [World.cell?, hfd]
  obtain ⟨lt, c0, c1, ⟨a4, d4, c4⟩, ⟨a5, d5, c5⟩, ⟨a6, d6, c6⟩, ⟨a7, d7, c7⟩, k6⟩ := h
  have hfl := hf.lt
  clear hfd hf
  cases hk : (k == 1) with
  | true =>
    have hlk := fun n => look_open (W.drewN n) ob s ho
    go_enter Try.func57, Try.ntmps57
    go_wp2_with fail
    go_quiet (fail)
    go_wp2_with fail
    obtain ⟨W5, hrun, hown5, hg5⟩ := World.ownsMap.update (show (W.drewN (nq + 1)).ownsMap Try.prog 9 (unitElem (H := Unit)) fb 0 (.map []) from HF.out) (string_keyed (by kernel_rfl)) (t := 111) (e := 112) (by kernel_rfl) (by decide) (key := .string (bt s)) (val := .agg #[]) (WideMaps.keyOf_string_mk (by kernel_rfl) (by rw [bt_size]; exact hsl)) unitElem_mk
    refine region_one 9 (by kernel_rfl) (by kernel_rfl) ?_
    simp only [List.take_succ_cons, List.take_zero, List.drop_succ_cons, List.drop_zero]
    refine swk_want (by rfl) (fun K hK => ?_)
    replace hK := Lib.hid hK
    go_simp
    refine hK.out _ ?_
    clear hK K
    refine swk_want (by rfl) (fun K hK => ?_)
    replace hK := Lib.hid hK
    go_simp
    refine hK.out _ ?_
    clear hK K
    refine swk_want (by rfl) (fun K hK => ?_)
    replace hK := Lib.hid hK
    go_simp
    refine hK.out _ ?_
    clear hK K
    refine swk_want (by rfl) (fun K hK => ?_)
    replace hK := Lib.hid hK
    go_simp
    refine hK.out _ ?_
    clear hK K
    refine swk_want (by rfl) (fun K hK => ?_)
    replace hK := Lib.hid hK
    go_simp
    refine hK.out _ ?_
    clear hK K
    refine swk_want (by rfl) (fun K hK => ?_)
    replace hK := Lib.hid hK
    go_simp
    refine hK.out _ ?_
    clear hK K
    refine swk_want (by rfl) (fun K hK => ?_)
    replace hK := Lib.hid hK
    go_simp
    refine hK.out _ ?_
    clear hK K
    refine swk_want (by rfl) (fun K hK => ?_)
    replace hK := Lib.hid hK
    go_simp
    refine hK.out _ ?_
    clear hK K
    refine swk_want (by rfl) (fun K hK => ?_)
    replace hK := Lib.hid hK
    go_simp
    refine hK.out _ ?_
    clear hK K
    refine swk_nil ?_
    refine one_want rfl (by rfl) (fun K hK => ?_)
    replace hK := Lib.hid hK
    go_simp
    refine hK.out _ _ ?_
    clear hK K
    simp only [List.take_succ_cons, List.take_zero, List.drop_succ_cons, List.drop_zero]
    refine swk_nil ?_
    have hg : W.grownBy W5 (some fb) := ⟨hg5.os, hg5.tape, hg5.output, hg5.size, hg5.block⟩
    have HO5 := Lib.hid (show W5.ownsMap Try.prog 9 (unitElem (H := Unit)) fb (0 + 1) (lfNames k s) ∧ W.grownBy W5 (some fb) from ⟨by unfold lfNames; rw [hk]; exact hown5, hg⟩)
    have HL5 := Lib.hid (HL.out.map hg HF.out)
    have hd5 : W5.heap[fd]? = some (.cells #[.map (some ob), .map (some fb)] 131 (0, 0)) := (hg.block fd (Array.getElem?_eq_some_iff.1 HD.out).1 (fun e => by cases e; obtain ⟨es, ck, hm, _⟩ := HF.out; rw [HD.out] at hm; cases hm)).trans HD.out
    clear hrun hown5 hg5 hg hlk c0 c1 c4 c5 c6 c7 d0 d1 lt hd5
    obtain ⟨lt, c0, c1, ⟨a4, d4, c4⟩, ⟨a5, d5, c5⟩, ⟨a6, d6, c6⟩, ⟨a7, d7, c7⟩, _⟩ := HL5.out
    go_wp2_with (first
      | (go_at_call 75; refine (bind_zero _ _ _ _ _).mono ?_; rintro e w9 ⟨⟨v9, rfl⟩, rfl⟩)
      | (go_at_call 76; refine (bindAll_zero _ _ _ _ _).mono ?_; rintro e w9 ⟨⟨v9, rfl⟩, rfl⟩))
    go_loopw [49] (fun i wr => i = .int .i64 0 ∧ wr = W5) (fun _ _ => 0)
    case atStart => exact ⟨rfl, rfl⟩
    case round =>
      obtain ⟨rfl, rfl⟩ := hrel
      go_wp2_with fail
      go_loopw [66] (fun i w6 => i = .int .i64 0 ∧ w6 = wr) (fun _ _ => 0)
      case atStart => exact ⟨rfl, rfl⟩
      case round =>
        obtain ⟨rfl, rfl⟩ := hrel
        go_wp2_with (first
      | (go_at_call 75; refine (bind_zero _ _ _ _ _).mono ?_; rintro e w9 ⟨⟨v9, rfl⟩, rfl⟩)
      | (go_at_call 76; refine (bindAll_zero _ _ _ _ _).mono ?_; rintro e w9 ⟨⟨v9, rfl⟩, rfl⟩))
        go_end0
        exact ⟨⟨_, rfl⟩, _, HO5.out.1, HO5.out.2⟩
  | false =>
    go_enter Try.func57, Try.ntmps57
    go_wp2_with fail
    go_quiet (fail)
    obtain ⟨W5, hW5⟩ : ∃ W5, W.drewN nq = W5 := ⟨_, rfl⟩
    have HO5 := Lib.hid (show W5.ownsMap Try.prog 9 (unitElem (H := Unit)) fb 0 (lfNames k s) ∧ W.grownBy W5 (some fb) from hW5 ▸ ⟨by unfold lfNames; rw [hk]; exact HF.out, ⟨rfl, rfl, rfl, Nat.le_refl _, fun _ _ _ => rfl⟩⟩)
    have HL5 := Lib.hid (show LfAt W5 b k s from hW5 ▸ HL.out.below (B := W.heap.size) (below_same (Below.refl _ _) rfl rfl rfl rfl) HL.out.lt)
    rw [hW5]
    clear hW5 c0 c1 c4 c5 c6 c7 d0 d1 lt
    obtain ⟨lt, c0, c1, ⟨a4, d4, c4⟩, ⟨a5, d5, c5⟩, ⟨a6, d6, c6⟩, ⟨a7, d7, c7⟩, _⟩ := HL5.out
    go_wp2_with (first
      | (go_at_call 75; refine (bind_zero _ _ _ _ _).mono ?_; rintro e w9 ⟨⟨v9, rfl⟩, rfl⟩)
      | (go_at_call 76; refine (bindAll_zero _ _ _ _ _).mono ?_; rintro e w9 ⟨⟨v9, rfl⟩, rfl⟩))
    go_loopw [49] (fun i wr => i = .int .i64 0 ∧ wr = W5) (fun _ _ => 0)
    case atStart => exact ⟨rfl, rfl⟩
    case round =>
      obtain ⟨rfl, rfl⟩ := hrel
      go_wp2_with fail
      go_loopw [66] (fun i w6 => i = .int .i64 0 ∧ w6 = wr) (fun _ _ => 0)
      case atStart => exact ⟨rfl, rfl⟩
      case round =>
        obtain ⟨rfl, rfl⟩ := hrel
        go_wp2_with (first
      | (go_at_call 75; refine (bind_zero _ _ _ _ _).mono ?_; rintro e w9 ⟨⟨v9, rfl⟩, rfl⟩)
      | (go_at_call 76; refine (bindAll_zero _ _ _ _ _).mono ?_; rintro e w9 ⟨⟨v9, rfl⟩, rfl⟩))
        go_end0
        exact ⟨⟨_, rfl⟩, _, HO5.out.1, HO5.out.2⟩
end Go.Proofs.Ytkdpojmbahjdjaa
