/- Contracts of isOneOf, isReservedWord, isReservedOperator, wordKind, operatorKind and of the library's Clone: what was there before stays. No condition but lengths that every string keeps. -/
import Derived.Test.YtbjbmehkcfpahaaGaps
import Derived.Lib.UnsafeStr
import Derived.Lib.BufferWrite
import Derived.Laws.MakeOwn
namespace Go.Proofs.Ytbjbmehkcfpahaa
open Go.RowKit Lx
attribute [local go_sem] bt_size bt_get bt_list bt_toList bt_drop bt_take

theorem contains_take (ws : List (List UInt8)) (l : List UInt8) (k : Nat) (h : k < ws.length) (hn : (ws.take k).contains l = false) (he : (l == ws[k]) = false) : (ws.take (k + 1)).contains l = false := by
  rw [List.take_succ_eq_append_getElem h, List.contains_append, hn]
  simpa using he

set_option maxHeartbeats 400000 in
set_option maxRecDepth 100000 in
theorem isOneOf_any (l : List UInt8) (ws : List (List UInt8)) (b cap : Nat) (w : World) (hn : ws.length ≤ 100)
    (hc : ∀ j (h : j < ws.length), w.cell? ⟨b, j, none⟩ = some (.string (bt ws[j]))) :
    Calls Try.prog 107 #[.string (bt l), .slice (some ⟨b, 0, none⟩) ws.length cap] w fun e w' => e = .returned (.bool (oneB ws l)) ∧ w = w' := by
  have HC := Lib.hid hc
  clear hc
  go_enter Try.func107, Try.ntmps107
  go_wp2
  go_loop [9] (fun i => ∃ k : Nat, k ≤ ws.length ∧ i = .int .i64 k ∧ (ws.take k).contains l = false) (fun i => ws.length - (intOf i).toNat)
  case atStart => exact ⟨0, Nat.zero_le _, rfl, rfl⟩
  case round =>
    obtain ⟨k, hk, rfl, hall⟩ := hrel
    have H := Lib.hid hall
    clear hall
    by_cases hlt : k < ws.length
    · have hcell := HC.out k hlt
      cases he : (l == ws[k]) with
      | true =>
        go_wp2
        go_ret
        refine ⟨ret_bool ?_, rfl⟩
        have : l = ws[k] := by simpa using he
        rw [this]
        simp [oneB]
      | false =>
        have HE := Lib.hid he
        go_wp2
        go_round
        case rel => exact ⟨k + 1, by omega, by go_num, contains_take ws l k hlt H.out HE.out⟩
        case measure => simp [intOf]; omega
    · go_wp2
      go_ret
      refine ⟨ret_bool ?_, rfl⟩
      have h := H.out
      rw [List.take_of_length_le (by omega)] at h
      show false = oneB ws l
      exact h.symm

def strObj (ws : List (List UInt8)) : Array Value := (ws.map fun x => Value.string (bt x)).toArray
theorem strObj_cell (w : World) (t : TypeId) (ws : List (List UInt8)) (j : Nat) (h : j < ws.length) : (w.alloc (.cells (strObj ws) t)).cell? ⟨w.heap.size, j, none⟩ = some (.string (bt ws[j])) := by
  rw [World.cell?_alloc_at _ _ _ _ rfl]
  simp [strObj, h]

theorem below_alloc (w : World) (o : Obj) : Below w.heap.size w (w.alloc o) := (Below.refl _ _).alloc (Nat.le_refl _) o

set_option maxHeartbeats 400000 in
set_option maxRecDepth 100000 in
theorem isReservedWord_any (l : List UInt8) (w : World) :
    Calls Try.prog 100 #[.string (bt l)] w fun e w' => e = .returned (.bool (oneB wordsL l)) ∧ Below w.heap.size w w' := by
  go_enter Try.func100, Try.ntmps100
  go_wp2_with fail
  refine (isOneOf_any l wordsL w.heap.size 17 (w.alloc (.cells (strObj wordsL) 9)) (by decide) (fun j h => strObj_cell w 9 wordsL j h)).mono ?_
  rintro e w' ⟨rfl, rfl⟩
  go_wp2
  go_ret
  exact ⟨rfl, below_alloc _ _⟩

set_option maxHeartbeats 400000 in
set_option maxRecDepth 100000 in
theorem isReservedOperator_any (l : List UInt8) (w : World) :
    Calls Try.prog 102 #[.string (bt l)] w fun e w' => e = .returned (.bool (oneB signsL l)) ∧ Below w.heap.size w w' := by
  go_enter Try.func102, Try.ntmps102
  go_wp2_with fail
  refine (isOneOf_any l signsL w.heap.size 8 (w.alloc (.cells (strObj signsL) 9)) (by decide) (fun j h => strObj_cell w 9 signsL j h)).mono ?_
  rintro e w' ⟨rfl, rfl⟩
  go_wp2
  go_ret
  exact ⟨rfl, below_alloc _ _⟩

theorem ret_int {k : IntKind} {a b : Int} (h : a = b) : Ending.returned (.int k a) = .returned (.int k b) := by rw [h]

set_option maxHeartbeats 400000 in
set_option maxRecDepth 100000 in
theorem wordKind_any (c : UInt8) (l : List UInt8) (w : World) :
    Calls Try.prog 77 #[.string (bt (c :: l))] w fun e w' => e = .returned (.int .i64 (wordKindL (c :: l))) ∧ Below w.heap.size w w' := by
  cases hw : oneB wordsL (c :: l) with
  | true =>
    have hk := Lib.hid (show wordKindL (c :: l) = 7 by rw [wordKindL, if_pos hw])
    go_enter Try.func77, Try.ntmps77
    go_wp2_with fail
    refine (isReservedWord_any _ _).mono ?_
    rintro e w' ⟨rfl, hb⟩
    rw [hw]
    go_wp2
    go_ret
    exact ⟨ret_int hk.out.symm, hb⟩
  | false =>
    cases h1 : (c :: l == [95]) with
    | true =>
      have hk := Lib.hid (show wordKindL (c :: l) = 8 by rw [wordKindL, if_neg (by rw [hw]; exact Bool.false_ne_true), if_pos (by simpa using h1)])
      go_enter Try.func77, Try.ntmps77
      go_wp2_with fail
      refine (isReservedWord_any _ _).mono ?_
      rintro e w' ⟨rfl, hb⟩
      rw [hw]
      go_wp2
      go_ret
      exact ⟨ret_int hk.out.symm, hb⟩
    | false =>
      cases h2 : capB c with
      | true =>
        have hk := Lib.hid (show wordKindL (c :: l) = 2 by rw [wordKindL, if_neg (by rw [hw]; exact Bool.false_ne_true), if_neg (by intro h; simp [h] at h1), if_pos (by exact h2)])
        go_enter Try.func77, Try.ntmps77
        go_wp2_with fail
        refine (isReservedWord_any _ _).mono ?_
        rintro e w' ⟨rfl, hb⟩
        rw [hw]
        go_wp2_with fail
        refine (isCapital_any _ _).mono ?_
        rintro e w' ⟨rfl, rfl⟩
        rw [h2]
        go_wp2
        go_ret
        exact ⟨ret_int hk.out.symm, hb⟩
      | false =>
        have hk := Lib.hid (show wordKindL (c :: l) = 1 by rw [wordKindL, if_neg (by rw [hw]; exact Bool.false_ne_true), if_neg (by intro h; simp [h] at h1), if_neg (by show ¬ capB c = true; rw [h2]; exact Bool.false_ne_true)])
        go_enter Try.func77, Try.ntmps77
        go_wp2_with fail
        refine (isReservedWord_any _ _).mono ?_
        rintro e w' ⟨rfl, hb⟩
        rw [hw]
        go_wp2_with fail
        refine (isCapital_any _ _).mono ?_
        rintro e w' ⟨rfl, rfl⟩
        rw [h2]
        go_wp2
        go_ret
        exact ⟨ret_int hk.out.symm, hb⟩

set_option maxHeartbeats 400000 in
set_option maxRecDepth 100000 in
theorem operatorKind_any (c : UInt8) (l : List UInt8) (w : World) :
    Calls Try.prog 80 #[.string (bt (c :: l))] w fun e w' => e = .returned (.int .i64 (operKindL (c :: l))) ∧ Below w.heap.size w w' := by
  cases hw : oneB signsL (c :: l) with
  | true =>
    have hk := Lib.hid (show operKindL (c :: l) = 8 by rw [operKindL, if_pos hw])
    go_enter Try.func80, Try.ntmps80
    go_wp2_with fail
    refine (isReservedOperator_any _ _).mono ?_
    rintro e w' ⟨rfl, hb⟩
    rw [hw]
    go_wp2
    go_ret
    exact ⟨ret_int hk.out.symm, hb⟩
  | false =>
    by_cases h2 : c = 58
    · have hk := Lib.hid (show operKindL (c :: l) = 4 by rw [operKindL, if_neg (by rw [hw]; exact Bool.false_ne_true), if_pos (by exact h2)])
      have g2 : ((c.toNat : Int) == 58) = true := by rw [h2]; rfl
      clear h2
      go_enter Try.func80, Try.ntmps80
      go_wp2_with fail
      refine (isReservedOperator_any _ _).mono ?_
      rintro e w' ⟨rfl, hb⟩
      rw [hw]
      go_wp2
      go_ret
      exact ⟨ret_int hk.out.symm, hb⟩
    · have hk := Lib.hid (show operKindL (c :: l) = 3 by rw [operKindL, if_neg (by rw [hw]; exact Bool.false_ne_true), if_neg (by exact h2)])
      have g2 : ((c.toNat : Int) == 58) = false := byte_ne h2
      clear h2
      go_enter Try.func80, Try.ntmps80
      go_wp2_with fail
      refine (isReservedOperator_any _ _).mono ?_
      rintro e w' ⟨rfl, hb⟩
      rw [hw]
      go_wp2
      go_ret
      exact ⟨ret_int hk.out.symm, hb⟩

theorem Try.info8 : (Try.prog.info? 5).map (fun i => (i.zero, i.size, i.bytes)) = some (some (.int .u8 0), 1, 1) := by kernel_rfl
theorem Try.under8s : Try.prog.underlying 83 = some (.slice 5) := by kernel_rfl
theorem Try.under8p : Try.prog.underlying 114 = some (.pointer 5) := by kernel_rfl

set_option maxHeartbeats 4000000 in
set_option maxRecDepth 100000 in
theorem liteClone_any (s : ByteArray) (w : World) (hlim : s.size ≤ 281474976710656) :
    Calls Try.prog 103 #[.string s] w fun e w' => e = .returned (.string s) ∧ Below w.heap.size w w' := by
  by_cases h0 : s.size = 0
  · have hs : s = ⟨#[]⟩ := ByteArray.ext (Array.eq_empty_of_size_eq_zero h0)
    subst hs
    go_enter Try.func103, Try.ntmps103
    go_wp2
    go_ret
    exact ⟨rfl, Below.refl _ _⟩
  · obtain ⟨i0, hi, hz0, hz1, hz2⟩ := info_parts Try.info8
    have hinfo : (Try.prog.info? 5).map (·.size) = some 1 := by rw [hi]; simp [hz1]
    have hco : Try.prog.cellsOf 5 = 1 := by simp [Program.cellsOf, hi, hz1]
    obtain ⟨M, hM⟩ : ∃ M, M = madeCells (Value.int .u8 0).cells (((s.size : Nat) : Int).toNat * i0.size) := ⟨_, rfl⟩
    have hMs : M.size = s.size := by rw [hM, size_madeCells, hz1]; simp
    have hmk : ∀ W : World, (Instr.makeSlice 83 (.int .i64 (s.size : Int)) (.int .i64 (s.size : Int))).run Try.prog W = .ok (.slice (some ⟨W.heap.size, 0, none⟩) s.size s.size) (W.alloc (.cells M 5)) := fun W => by
      have h := run_make (P := Try.prog) W 83 5 i0 (.int .u8 0) Try.under8s hi hz0 .i64 .i64 (s.size : Int) (s.size : Int) (by omega) (by omega) (by rw [hz2]; omega) (by omega)
      rw [← hM] at h
      simpa using h
    clear hM
    have hcp := Lib.run_copy_row_string (P := Try.prog) (w.alloc (.cells M 5)) 83 9 3 5 w.heap.size 0 s.size s.size s M 5 Try.under8s hinfo (heap_alloc_new w _) (Nat.le_refl _) (by omega)
    obtain ⟨Y, hY⟩ : ∃ Y, Y = (M.toList.take 0 ++ Lib.byteCells s.data.toList ++ M.toList.drop (0 + s.size)).toArray := ⟨_, rfl⟩
    rw [← hY] at hcp
    have hYl : Y.toList = Lib.byteCells s.data.toList := by
      rw [hY, List.toList_toArray, List.take_zero, List.nil_append, List.drop_of_length_le (by rw [Array.length_toList]; omega), List.append_nil]
    have hgY : ((w.alloc (.cells M 5)).setRow w.heap.size Y).heap[w.heap.size]? = some (.cells Y 5 (0, 0)) := setRow_heap _ _ M _ 5 (0, 0) (heap_alloc_new w _)
    have hYs : Y.size = s.size := by rw [← Array.length_toList, hYl, Lib.byteCells_length, ← Lib.size_eq]
    have hne : s.data.toList ≠ [] := fun e => h0 (by rw [Lib.size_eq, e]; rfl)
    have hUS := Lib.run_unsafeString_row (P := Try.prog) ((w.alloc (.cells M 5)).setRow w.heap.size Y) 114 3 9 5 Try.under8p hco w.heap.size Y.size (by unfold World.shape?; rw [hgY]) s.data.toList hne (by rw [← Lib.size_eq]; omega) (by rw [← Lib.size_eq]; omega)
      (fun j x hx => Lib.cells_of_row hgY Y.size j _ (by rw [List.take_of_length_le (by rw [Array.length_toList]; exact Nat.le_refl _), hYl]; simp [Lib.byteCells, hx]))
    rw [← Lib.size_eq] at hUS
    clear hY
    go_enter Try.func103, Try.ntmps103
    go_wp2
    go_ret
    have hb1 : Below w.heap.size w (w.alloc (.cells M 5)) := (Below.refl _ w).alloc (Nat.le_refl _) _
    have hb2 : Below w.heap.size (w.alloc (.cells M 5)) ((w.alloc (.cells M 5)).setRow w.heap.size Y) := ⟨rfl, rfl, rfl, by simp, fun k hk => setRow_other _ _ _ _ (by omega)⟩
    exact ⟨rfl, Lib.below_freeze (hb1.trans hb2) (p := ⟨w.heap.size, 0, none⟩) (Nat.le_refl _) _⟩

set_option maxHeartbeats 400000 in
set_option maxRecDepth 100000 in
theorem clone_any (l : List UInt8) (w : World) (hlim : l.length ≤ 281474976710656) :
    Calls Try.prog 81 #[.string (bt l)] w fun e w' => e = .returned (.string (bt l)) ∧ Below w.heap.size w w' := by
  go_enter Try.func81, Try.ntmps81
  go_wp2_with fail
  refine (liteClone_any _ _ (by rw [bt_size]; exact hlim)).mono ?_
  rintro e w' ⟨rfl, hb⟩
  go_wp2
  go_ret
  exact ⟨rfl, hb⟩
end Go.Proofs.Ytbjbmehkcfpahaa
