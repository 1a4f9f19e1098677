/- Contracts of the lexer's small functions on bytes, and of the library's that it calls. No condition. -/
import Derived.Test.YtbjbmehkcfpahaaChecked
import Derived.Test.YtbjbmehkcfpahaaPlain
import Derived.WalkKit
import Derived.WalkSpells
import Derived.Lib.Walk
import Derived.Lib.Strings
import Derived.Lib.Slices
import Derived.Lib.Bytealg
import Derived.Lib.Hide
namespace Go.Proofs.Ytbjbmehkcfpahaa
open Go.RowKit Lx

/-- A function on bytes that answers p and leaves the world alone. -/
def PredFn (f : FuncId) (p : UInt8 → Bool) : Prop := ∀ (b : UInt8) (w : World), Calls Try.prog f #[.int .u8 (b.toNat : Int)] w fun e w' => e = .returned (.bool (p b)) ∧ w = w'

theorem ret_bool {a b : Bool} (h : a = b) : Ending.returned (.bool a) = .returned (.bool b) := by rw [h]

set_option maxHeartbeats 400000 in
set_option maxRecDepth 100000 in
theorem isSpace_any : PredFn 71 spaceB := by
  intro b w
  go_enter Try.func71, Try.ntmps71
  go_wp2
  all_goals
    go_ret
    refine ⟨ret_bool ?_, rfl⟩
    rw [Bool.eq_iff_iff]
    simp [spaceB, ← UInt8.toNat_inj]
    try omega

set_option maxHeartbeats 400000 in
set_option maxRecDepth 100000 in
theorem isCapital_any : PredFn 75 capB := by
  intro b w
  go_enter Try.func75, Try.ntmps75
  go_wp2
  all_goals
    go_ret
    refine ⟨ret_bool ?_, rfl⟩
    rw [Bool.eq_iff_iff]
    simp [capB, UInt8.le_iff_toNat_le]
    try omega

set_option maxHeartbeats 400000 in
set_option maxRecDepth 100000 in
theorem isDigit_any : PredFn 45 digB := by
  intro b w
  go_enter Try.func45, Try.ntmps45
  go_wp2
  all_goals
    go_ret
    refine ⟨ret_bool ?_, rfl⟩
    rw [Bool.eq_iff_iff]
    simp [digB, UInt8.le_iff_toNat_le]
    try omega

set_option maxHeartbeats 400000 in
set_option maxRecDepth 100000 in
theorem isDash_any : PredFn 99 dashB := by
  intro b w
  go_enter Try.func99, Try.ntmps99
  go_wp2
  all_goals
    go_ret
    refine ⟨ret_bool ?_, rfl⟩
    rw [Bool.eq_iff_iff]
    simp [dashB, ← UInt8.toNat_inj]
    try omega

set_option maxHeartbeats 400000 in
set_option maxRecDepth 100000 in
theorem isLetter_any : PredFn 43 letB := by
  intro b w
  go_enter Try.func43, Try.ntmps43
  go_wp2_with (go_at_call 75; refine (isCapital_any _ _).mono ?_; rintro e w' ⟨rfl, rfl⟩)
  all_goals
    go_ret
    refine ⟨ret_bool ?_, rfl⟩
    rw [Bool.eq_iff_iff]
    simp [letB, UInt8.le_iff_toNat_le, *]
    try omega

set_option maxHeartbeats 400000 in
set_option maxRecDepth 100000 in
theorem isWordByte_any : PredFn 76 wordB := by
  intro b w
  go_enter Try.func76, Try.ntmps76
  go_wp2_with (first
    | (go_at_call 43; refine (isLetter_any _ _).mono ?_; rintro e w' ⟨rfl, rfl⟩)
    | (go_at_call 45; refine (isDigit_any _ _).mono ?_; rintro e w' ⟨rfl, rfl⟩))
  all_goals
    go_ret
    refine ⟨ret_bool ?_, rfl⟩
    rw [Bool.eq_iff_iff]
    simp [wordB, ← UInt8.toNat_inj, *]
    try omega

set_option maxHeartbeats 1000000 in
set_option maxRecDepth 100000 in
theorem liteIndexByte_any (s : ByteArray) (b : UInt8) (w : World) :
    Calls Try.prog 101 #[.string s, .int .u8 (b.toNat : Int)] w fun e w' => e = .returned (.int .i64 (Lib.indexByte s.data.toList b)) ∧ w = w' := by
  have hb : ((b.toNat : Int).toNat).toUInt8 = b := by simp
  have H := Lib.hid hb
  clear hb
  go_enter Try.func101, Try.ntmps101
  go_wp2
  rw [run_callFunc_extern Try.func108 (by kernel_rfl) (by kernel_rfl) (by kernel_rfl) (e := Extern.BytealgIndexByte.indexByte) (by kernel_rfl), Lib.run_indexByteString, H.out]
  simp only [Result.andThen]
  rw [Oper.upon_value]
  go_wp2
  go_ret
  exact ⟨rfl, rfl⟩

set_option maxHeartbeats 400000 in
set_option maxRecDepth 100000 in
theorem indexByte_any (s : ByteArray) (b : UInt8) (w : World) :
    Calls Try.prog 79 #[.string s, .int .u8 (b.toNat : Int)] w fun e w' => e = .returned (.int .i64 (Lib.indexByte s.data.toList b)) ∧ w = w' := by
  go_enter Try.func79, Try.ntmps79
  go_wp2_with (go_at_call 101; refine (liteIndexByte_any _ _ _).mono ?_; rintro e w' ⟨rfl, rfl⟩)
  go_ret
  exact ⟨rfl, rfl⟩

theorem indexByte_has (l : List UInt8) (b : UInt8) : decide (0 ≤ Lib.indexByte l b) = l.contains b := by
  induction l with
  | nil => rfl
  | cons a l ih =>
    have hg := Lib.indexByte_ge l b
    rw [Bool.eq_iff_iff] at ih ⊢
    simp only [decide_eq_true_eq] at ih ⊢
    unfold Lib.indexByte
    by_cases h : a = b
    · subst h; simp
    · have h' : ¬ b = a := fun e => h e.symm
      by_cases h1 : Lib.indexByte l b = -1
      · simp only [beq_iff_eq, h, h1, if_false, if_true]
        rw [h1] at ih
        simp [h']
        simpa using ih
      · simp only [beq_iff_eq, h, h1, if_false]
        simp [h']
        simp at ih
        rw [← ih]
        omega

set_option maxHeartbeats 400000 in
set_option maxRecDepth 100000 in
theorem isSymbol_any : PredFn 47 symB := by
  intro b w
  have hs := Lib.hid (indexByte_has symL b)
  go_enter Try.func47, Try.ntmps47
  go_wp2_with (go_at_call 79; refine (indexByte_any _ _ _).mono ?_; rintro e w' ⟨rfl, rfl⟩)
  all_goals
    go_ret
    exact ⟨ret_bool hs.out, rfl⟩

set_option maxHeartbeats 400000 in
set_option maxRecDepth 100000 in
theorem isBracket_any : PredFn 49 brkB := by
  intro b w
  have hs := Lib.hid (indexByte_has brkL b)
  go_enter Try.func49, Try.ntmps49
  go_wp2_with (go_at_call 79; refine (indexByte_any _ _ _).mono ?_; rintro e w' ⟨rfl, rfl⟩)
  all_goals
    go_ret
    exact ⟨ret_bool hs.out, rfl⟩
end Go.Proofs.Ytbjbmehkcfpahaa
