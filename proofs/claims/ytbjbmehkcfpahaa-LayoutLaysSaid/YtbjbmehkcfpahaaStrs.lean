/- Contracts of the lexer's functions on strings that leave the world alone, and of the library's that it calls. No condition but lengths that every string keeps. -/
import Derived.Test.YtbjbmehkcfpahaaBytes
import Derived.Lib.LastIndexByte
namespace Go.Proofs.Ytbjbmehkcfpahaa
open Go.RowKit Lx
attribute [local go_sem] bt_size bt_get bt_list

/-- A call of the function f enters it. -/
def EntersFn (f : FuncId) : Prop := ∀ (args : Array Value) (w : World), (callFunc f args).run Try.prog w = .ok (.enter f args) w

theorem enters_of {f : FuncId} {fn : Func} {c : Code} (hf : Try.prog.funcs[f]? = some fn) (hname : (fn.name == "runtime.NumGoroutine") = false) (hb : fn.body = some c) : EntersFn f := by
  intro args w
  have h1 : fn.name ≠ "runtime.NumGoroutine" := by simpa using hname
  simp [callFunc, hf, h1, hb]

theorem enters_isSpace : EntersFn 71 := enters_of Try.func71 (by kernel_rfl) rfl
theorem enters_isSymbol : EntersFn 47 := enters_of Try.func47 (by kernel_rfl) rfl
theorem enters_isDash : EntersFn 99 := enters_of Try.func99 (by kernel_rfl) rfl
theorem enters_isDigit : EntersFn 45 := enters_of Try.func45 (by kernel_rfl) rfl
theorem enters_isWordByte : EntersFn 76 := enters_of Try.func76 (by kernel_rfl) rfl

theorem takeWhile_take {p : UInt8 → Bool} : ∀ (l : List UInt8) (k : Nat), (l.take k).all p = true → (h : k < l.length) → p l[k] = false → l.takeWhile p = l.take k
  | [], _, _, h, _ => by simp at h
  | a :: l, 0, _, _, h => by simp at h; simp [h]
  | a :: l, k + 1, hall, h, hp => by
    simp at hall h hp
    simp [hall.1]
    exact takeWhile_take l k (by simpa using hall.2) h hp

theorem takeWhile_all {p : UInt8 → Bool} : ∀ (l : List UInt8), l.all p = true → l.takeWhile p = l
  | [], _ => rfl
  | a :: l, h => by
    simp at h
    simp [h.1]
    exact takeWhile_all l (by simpa using h.2)

theorem all_snoc {p : UInt8 → Bool} (l : List UInt8) (k : Nat) (h : k < l.length) (ha : (l.take k).all p = true) (hp : p l[k] = true) : (l.take (k + 1)).all p = true := by
  rw [List.take_succ_eq_append_getElem h, List.all_append, ha]
  simp [hp]

set_option maxHeartbeats 400000 in
set_option maxRecDepth 100000 in
theorem prefix_any (f : FuncId) (p : UInt8 → Bool) (hen : EntersFn f) (hf : PredFn f p) (l : List UInt8) (w : World) (hs : l.length ≤ maxLen) :
    Calls Try.prog 70 #[.string (bt l), .func (.func f) #[] #[]] w fun e w' => e = .returned (.string (bt (l.takeWhile p))) ∧ w = w' := by
  unfold maxLen at hs
  go_enter Try.func70, Try.ntmps70
  go_wp2
  go_loop [5] (fun i => ∃ k : Nat, k ≤ l.length ∧ i = .int .i64 k ∧ (l.take k).all p = true) (fun i => l.length - (intOf i).toNat)
  case atStart => exact ⟨0, Nat.zero_le _, rfl, rfl⟩
  case round =>
    obtain ⟨k, hk, rfl, hall⟩ := hrel
    have H := Lib.hid hall
    clear hall
    by_cases hlt : k < l.length
    · go_wp2_with fail
      rw [hen, Oper.upon_enter]
      cases hp : p l[k] with
      | true =>
        have Hp := Lib.hid hp
        refine (hf _ _).mono ?_
        rintro e w' ⟨rfl, rfl⟩
        rw [hp]
        clear hp
        go_wp2
        go_round
        case rel => exact ⟨k + 1, by omega, by go_num, all_snoc l k hlt H.out Hp.out⟩
        case measure => simp [intOf]; omega
      | false =>
        have Hp := Lib.hid hp
        refine (hf _ _).mono ?_
        rintro e w' ⟨rfl, rfl⟩
        rw [hp]
        clear hp
        go_wp2
        go_ret
        refine ⟨?_, rfl⟩
        rw [takeWhile_take l k H.out hlt Hp.out]
        show Ending.returned (Value.string ((bt l).extract 0 k)) = _
        rw [bt_extract]
        rfl
    · go_wp2
      go_ret
      refine ⟨?_, rfl⟩
      have hkl : k = l.length := by omega
      have ha := H.out
      rw [hkl, List.take_length] at ha
      rw [takeWhile_all l ha]
      show Ending.returned (Value.string ((bt l).extract 0 k)) = _
      rw [bt_extract, hkl]
      simp

set_option maxHeartbeats 1000000 in
set_option maxRecDepth 100000 in
theorem hasPrefix_any (s p : ByteArray) (w : World) :
    Calls Try.prog 72 #[.string s, .string p] w fun e w' => e = .returned (.bool (p.data.toList.isPrefixOf s.data.toList)) ∧ w = w' := by
  show Calls Try.prog 72 #[.string s, .string p] w fun e w' => e = .returned (.bool (Lib.hasPrefix s.data.toList p.data.toList)) ∧ w = w'
  rw [← Lib.hasPrefix_of_take, ← Lib.size_eq, ← Lib.size_eq]
  go_enter Try.func72, Try.ntmps72
  go_wp2
  · rename_i h
    go_ret
    refine ⟨?_, rfl⟩
    show Ending.returned (Value.bool ((s.extract 0 p.size).toList == p.toList)) = _
    rw [Lib.extract_toList, Lib.toList_data]
    simp [h]
  · rename_i h
    go_ret
    refine ⟨?_, rfl⟩
    show Ending.returned (Value.bool false) = _
    simp [h]

theorem hasOpen_any (l : List UInt8) (w : World) : Calls Try.prog 72 #[.string (bt l), .string ⟨#[123, 45]⟩] w fun e w' => e = .returned (.bool (openB l)) ∧ w = w' := hasPrefix_any (bt l) ⟨#[123, 45]⟩ w
theorem hasClose_any (l : List UInt8) (w : World) : Calls Try.prog 72 #[.string (bt l), .string ⟨#[45, 125]⟩] w fun e w' => e = .returned (.bool (closeB l)) ∧ w = w' := hasPrefix_any (bt l) ⟨#[45, 125]⟩ w

set_option maxHeartbeats 1000000 in
set_option maxRecDepth 100000 in
theorem count_any (s : ByteArray) (c : UInt8) (w : World) :
    Calls Try.prog 52 #[.string s, .string ⟨#[c]⟩] w fun e w' => e = .returned (.int .i64 (Lib.countByte s.data.toList c)) ∧ w = w' := by
  go_enter Try.func52, Try.ntmps52
  go_wp2
  rw [run_callFunc_extern Try.func84 (by kernel_rfl) (by kernel_rfl) (by kernel_rfl) (e := Extern.BytealgCount.count) (by kernel_rfl), Lib.run_countString]
  simp only [Result.andThen]
  rw [Oper.upon_value]
  go_wp2
  go_ret
  exact ⟨rfl, rfl⟩

/-- Among the first k bytes: one more than the last place of a newline; 0: none. -/
def lastNl (l : List UInt8) : Nat → Nat
  | 0 => 0
  | k + 1 => if l[k]? = some 10 then k + 1 else lastNl l k

set_option maxHeartbeats 400000 in
set_option maxRecDepth 100000 in
theorem lastByteStr_any (l : List UInt8) (w : World) (hs : l.length ≤ maxLen) :
    Calls Try.prog 86 #[.string (bt l), .int .u8 10] w fun e w' => e = .returned (.int .i64 ((lastNl l l.length : Int) - 1)) ∧ w = w' := by
  unfold maxLen at hs
  go_enter Try.func86, Try.ntmps86
  go_wp2
  go_loop [5] (fun i => ∃ k : Nat, k ≤ l.length ∧ i = .int .i64 ((k : Int) - 1) ∧ lastNl l l.length = lastNl l k) (fun i => (intOf i + 1).toNat)
  case atStart => exact ⟨l.length, Nat.le_refl _, rfl, rfl⟩
  case round =>
    obtain ⟨k, hk, rfl, hall⟩ := hrel
    have H := Lib.hid hall
    clear hall
    match k, hk, H with
    | 0, hk, H =>
      go_wp2
      go_ret
      refine ⟨?_, rfl⟩
      rw [H.out]
      rfl
    | j + 1, hk, H =>
      have e0 : ((j + 1 : Nat) : Int) - 1 = (j : Int) := by omega
      rw [e0]
      clear e0
      have hj : j < l.length := by omega
      by_cases hb : l[j] = 10
      · have hb' : ((l[j].toNat : Int) == 10) = true := by rw [hb]; rfl
        have Hb := Lib.hid hb
        clear hb
        go_wp2
        go_ret
        refine ⟨?_, rfl⟩
        rw [H.out]
        simp [lastNl, List.getElem?_eq_getElem hj, Hb.out]
      · have hb' : ((l[j].toNat : Int) == 10) = false := by
          rw [beq_eq_false_iff_ne]
          intro h
          exact hb (UInt8.toNat_inj.1 (by have : l[j].toNat = 10 := by omega
                                          simpa using this))
        have Hb := Lib.hid hb
        clear hb
        go_wp2
        go_round
        case rel => exact ⟨j, by omega, rfl, by rw [H.out]; simp [lastNl, List.getElem?_eq_getElem hj, Hb.out]⟩
        case measure => simp [intOf]

set_option maxHeartbeats 400000 in
set_option maxRecDepth 100000 in
theorem lastByte_any (l : List UInt8) (w : World) (hs : l.length ≤ maxLen) :
    Calls Try.prog 53 #[.string (bt l), .int .u8 10] w fun e w' => e = .returned (.int .i64 ((lastNl l l.length : Int) - 1)) ∧ w = w' := by
  go_enter Try.func53, Try.ntmps53
  go_wp2_with (go_at_call 86; refine (lastByteStr_any _ _ hs).mono ?_; rintro e w' ⟨rfl, rfl⟩)
  go_ret
  exact ⟨rfl, rfl⟩

end Go.Proofs.Ytbjbmehkcfpahaa
