/- Contracts of the reference's small functions: letter, digit, has, mark, one, words, signs, goes. No condition but a length. -/
import Derived.Test.YtbjbmehkcfpahaaKinds
namespace Go.Proofs.Ytbjbmehkcfpahaa
open Go.RowKit Lx
attribute [local go_sem] bt_size bt_get bt_list bt_toList bt_drop bt_take

set_option maxHeartbeats 400000 in
set_option maxRecDepth 100000 in
theorem refLetter_any : PredFn 22 letB := by
  intro b w
  go_enter Try.func22, Try.ntmps22
  go_wp2
  all_goals
    go_ret
    refine ⟨ret_bool ?_, rfl⟩
    rw [Bool.eq_iff_iff]
    simp [letB, capB, UInt8.le_iff_toNat_le]
    try omega

set_option maxHeartbeats 400000 in
set_option maxRecDepth 100000 in
theorem refDigit_any : PredFn 26 digB := by
  intro b w
  go_enter Try.func26, Try.ntmps26
  go_wp2
  all_goals
    go_ret
    refine ⟨ret_bool ?_, rfl⟩
    rw [Bool.eq_iff_iff]
    simp [digB, UInt8.le_iff_toNat_le]
    try omega

/-- Is a byte one of some? -/
def hasB (l : List UInt8) (b : UInt8) : Bool := l.contains b

set_option maxHeartbeats 400000 in
set_option maxRecDepth 100000 in
theorem refHas_any (l : List UInt8) (b : UInt8) (w : World) (hl : l.length ≤ 100) :
    Calls Try.prog 29 #[.string (bt l), .int .u8 (b.toNat : Int)] w fun e w' => e = .returned (.bool (hasB l b)) ∧ w = w' := by
  go_enter Try.func29, Try.ntmps29
  go_wp2
  go_loop [5] (fun i => ∃ k : Nat, k ≤ l.length ∧ i = .int .i64 k ∧ (l.take k).contains b = false) (fun i => l.length - (intOf i).toNat)
  case atStart => exact ⟨0, Nat.zero_le _, rfl, rfl⟩
  case round =>
    obtain ⟨k, hk, rfl, hall⟩ := hrel
    have H := Lib.hid hall
    clear hall
    by_cases hlt : k < l.length
    · by_cases he : l[k] = b
      · have ge : ((l[k].toNat : Int) == (b.toNat : Int)) = true := by rw [he]; simp
        have HE := Lib.hid he
        clear he
        go_wp2
        go_ret
        refine ⟨ret_bool ?_, rfl⟩
        unfold hasB
        rw [← HE.out]
        simp
      · have ge : ((l[k].toNat : Int) == (b.toNat : Int)) = false := byte_ne he
        have HE := Lib.hid he
        clear he
        go_wp2
        go_round
        case rel =>
          refine ⟨k + 1, by omega, by go_num, ?_⟩
          rw [List.take_succ_eq_append_getElem hlt, List.contains_append, H.out]
          have := HE.out
          simpa using fun e => this e.symm
        case measure => simp [intOf]; omega
    · go_wp2
      go_ret
      refine ⟨ret_bool ?_, rfl⟩
      have h := H.out
      rw [List.take_of_length_le (by omega)] at h
      exact h.symm

def markL : List UInt8 := [33, 35, 36, 37, 38, 42, 43, 46, 47, 60, 61, 62, 63, 64, 92, 94, 124, 45, 58, 126]
theorem mark_eq (b : UInt8) : (hasB markL b && !((b.toNat : Int) == 126)) = symB b := by
  unfold hasB symB
  have e : markL = symL ++ [126] := rfl
  rw [e, List.contains_append]
  by_cases h : b = 126
  · subst h; rfl
  · have g : ((b.toNat : Int) == 126) = false := byte_ne h
    rw [g]
    simp [h]

set_option maxHeartbeats 400000 in
set_option maxRecDepth 100000 in
theorem refMark_any : PredFn 27 symB := by
  intro b w
  have hm := Lib.hid (mark_eq b)
  go_enter Try.func27, Try.ntmps27
  go_wp2_with fail
  refine (refHas_any markL b _ (by decide)).mono ?_
  rintro e w' ⟨rfl, rfl⟩
  cases h1 : hasB markL b with
  | true =>
    go_wp2
    go_ret
    refine ⟨ret_bool ?_, rfl⟩
    rw [← hm.out, h1]
    rfl
  | false =>
    go_wp2
    go_ret
    refine ⟨ret_bool ?_, rfl⟩
    rw [← hm.out, h1]
    rfl

set_option maxHeartbeats 400000 in
set_option maxRecDepth 100000 in
theorem refOne_any (l : List UInt8) (ws : List (List UInt8)) (b cap : Nat) (w : World) (hn : ws.length ≤ 100)
    (hc : ∀ j (h : j < ws.length), w.cell? ⟨b, j, none⟩ = some (.string (bt ws[j]))) :
    Calls Try.prog 24 #[.string (bt l), .slice (some ⟨b, 0, none⟩) ws.length cap] w fun e w' => e = .returned (.bool (oneB ws l)) ∧ w = w' := by
  have HC := Lib.hid hc
  clear hc
  go_enter Try.func24, Try.ntmps24
  go_wp2
  go_loop [5] (fun i => ∃ k : Nat, k ≤ ws.length ∧ i = .int .i64 k ∧ (ws.take k).contains l = false) (fun i => ws.length - (intOf i).toNat)
  case atStart => exact ⟨0, Nat.zero_le _, rfl, rfl⟩
  case round =>
    obtain ⟨k, hk, rfl, hall⟩ := hrel
    have H := Lib.hid hall
    clear hall
    by_cases hlt : k < ws.length
    · have hcell := HC.out k hlt
      cases he : (ws[k] == l) with
      | true =>
        go_wp2
        go_ret
        refine ⟨ret_bool ?_, rfl⟩
        have : ws[k] = l := by simpa using he
        rw [← this]
        simp [oneB]
      | false =>
        have HE := Lib.hid he
        go_wp2
        go_round
        case rel => exact ⟨k + 1, by omega, by go_num, contains_take ws l k hlt H.out (by
          have h := HE.out
          rw [beq_eq_false_iff_ne] at h ⊢
          exact fun e => h e.symm)⟩
        case measure => simp [intOf]; omega
    · go_wp2
      go_ret
      refine ⟨ret_bool ?_, rfl⟩
      have h := H.out
      rw [List.take_of_length_le (by omega)] at h
      show false = oneB ws l
      exact h.symm

/-- A new row of strings. -/
def StrsPost (ws : List (List UInt8)) (w : World) (e : Ending) (w' : World) : Prop :=
  ∃ b, e = .returned (.slice (some ⟨b, 0, none⟩) ws.length ws.length) ∧ w.heap.size ≤ b ∧ b < w'.heap.size ∧ (∀ j (h : j < ws.length), w'.cell? ⟨b, j, none⟩ = some (.string (bt ws[j]))) ∧ Below w.heap.size w w'

set_option maxHeartbeats 400000 in
set_option maxRecDepth 100000 in
theorem refWords_any (w : World) : Calls Try.prog 25 #[] w fun e w' => StrsPost wordsL w e w' := by
  go_enter Try.func25, Try.ntmps25
  go_wp2
  go_ret
  exact ⟨w.heap.size, rfl, Nat.le_refl _, by simp, fun j h => strObj_cell w 9 wordsL j h, below_alloc _ _⟩

set_option maxHeartbeats 400000 in
set_option maxRecDepth 100000 in
theorem refSigns_any (w : World) : Calls Try.prog 28 #[] w fun e w' => StrsPost signsL w e w' := by
  go_enter Try.func28, Try.ntmps28
  go_wp2
  go_ret
  exact ⟨w.heap.size, rfl, Nat.le_refl _, by simp, fun j h => strObj_cell w 9 signsL j h, below_alloc _ _⟩

/-- The bytes of a row's kind. -/
def goesB (k : Nat) : UInt8 → Bool := if k = 0 then wordB else if k = 1 then digB else if k = 2 then symB else nlB

set_option maxHeartbeats 400000 in
set_option maxRecDepth 100000 in
theorem refGoes_any (k : Nat) (hk : k ≤ 3) (b : UInt8) (w : World) :
    Calls Try.prog 54 #[.int .i64 (k : Int), .int .u8 (b.toNat : Int)] w fun e w' => e = .returned (.bool (goesB k b)) ∧ w = w' := by
  match k, hk with
  | 0, _ =>
    have h0 : goesB 0 b = wordB b := rfl
    rw [h0]
    clear h0
    cases h1 : letB b with
    | true =>
      have hw := Lib.hid (show wordB b = true by simp [wordB, h1])
      go_enter Try.func54, Try.ntmps54
      go_wp2_with fail
      refine (refLetter_any _ _).mono ?_
      rintro e w' ⟨rfl, rfl⟩
      rw [h1]
      go_wp2
      go_ret
      exact ⟨ret_bool hw.out.symm, rfl⟩
    | false =>
      cases h2 : digB b with
      | true =>
        have hw := Lib.hid (show wordB b = true by simp [wordB, h2])
        go_enter Try.func54, Try.ntmps54
        go_wp2_with fail
        refine (refLetter_any _ _).mono ?_
        rintro e w' ⟨rfl, rfl⟩
        rw [h1]
        go_wp2_with fail
        refine (refDigit_any _ _).mono ?_
        rintro e w' ⟨rfl, rfl⟩
        rw [h2]
        go_wp2
        go_ret
        exact ⟨ret_bool hw.out.symm, rfl⟩
      | false =>
        have hw := Lib.hid (show wordB b = (b == 95 || b == 39) by simp [wordB, h1, h2])
        go_enter Try.func54, Try.ntmps54
        go_wp2_with fail
        refine (refLetter_any _ _).mono ?_
        rintro e w' ⟨rfl, rfl⟩
        rw [h1]
        go_wp2_with fail
        refine (refDigit_any _ _).mono ?_
        rintro e w' ⟨rfl, rfl⟩
        rw [h2]
        go_wp2
        all_goals
          go_ret
          refine ⟨ret_bool ?_, rfl⟩
          rw [hw.out, Bool.eq_iff_iff]
          simp [← UInt8.toNat_inj]
          try omega
  | 1, _ =>
    go_enter Try.func54, Try.ntmps54
    go_wp2_with fail
    refine (refDigit_any _ _).mono ?_
    rintro e w' ⟨rfl, rfl⟩
    go_wp2
    go_ret
    exact ⟨rfl, rfl⟩
  | 2, _ =>
    go_enter Try.func54, Try.ntmps54
    go_wp2_with fail
    refine (refMark_any _ _).mono ?_
    rintro e w' ⟨rfl, rfl⟩
    go_wp2
    go_ret
    exact ⟨rfl, rfl⟩
  | 3, _ =>
    go_enter Try.func54, Try.ntmps54
    go_wp2
    all_goals
      go_ret
      refine ⟨ret_bool ?_, rfl⟩
      rw [Bool.eq_iff_iff]
      simp [goesB, nlB, ← UInt8.toNat_inj]
      try omega
end Go.Proofs.Ytbjbmehkcfpahaa
