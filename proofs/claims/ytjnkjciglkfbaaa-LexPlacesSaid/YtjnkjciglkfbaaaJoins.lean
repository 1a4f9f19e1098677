/- The walks of the law LexJoins: for any two texts it answers true and leaves what was there. No condition but that each text is no longer than 2^47 bytes. -/
import Derived.Test.YtjnkjciglkfbaaaPos
namespace Go.Proofs.Ytjnkjciglkfbaaa
open Go.RowKit Lx
attribute [local go_sem] bt_size bt_get bt_list bt_toList bt_drop bt_take bt_nl bt_app

theorem adv_snoc (l : List UInt8) (k : Nat) (h : k < l.length) (p : Nat × Nat) : advL p (l.take (k + 1)) = if l[k] = 10 then ((advL p (l.take k)).1 + 1, 1) else ((advL p (l.take k)).1, (advL p (l.take k)).2 + 1) := by
  rw [List.take_succ_eq_append_getElem h, advL_append]
  rfl

def placeR (q : Nat × Nat) : Ending := .returned (.tuple #[.int .i64 (q.1 : Int), .int .i64 (q.2 : Int)])

set_option maxHeartbeats 400000 in
theorem place_any (l : List UInt8) (n : Nat) (w : World) (hn : n ≤ l.length) (hl : l.length ≤ 20000) :
    Calls Try.prog 12 #[.string (bt l), .int .i64 (n : Int)] w fun e w' => e = placeR (advL (1, 1) (l.take n)) ∧ w = w' := by
  go_enter Try.func12, Try.ntmps12
  go_wp2
  go_loop [6, 7, 8] (fun a b i => ∃ (k : Nat) (q : Nat × Nat), k ≤ n ∧ i = .int .i64 k ∧ a = .int .i64 (q.1 : Int) ∧ b = .int .i64 (q.2 : Int) ∧ advL (1, 1) (l.take k) = q) (fun _ _ i => n - (intOf i).toNat)
  case atStart => exact ⟨0, (1, 1), Nat.zero_le _, rfl, rfl, rfl, rfl⟩
  case round =>
    obtain ⟨k, q, hk, rfl, rfl, rfl, hq⟩ := hrel
    have hb := adv_bd (l.take k) (1, 1) (by simp)
    have hkl : (l.take k).length ≤ k := List.length_take_le _ _
    rw [hq] at hb
    simp only at hb
    obtain ⟨b1, b2⟩ := hb
    have HQ := Lib.hid hq
    clear hq
    by_cases hlt : k < n
    · have hkl' : k < l.length := by omega
      have hs := adv_snoc l k hkl' (1, 1)
      rw [HQ.out] at hs
      by_cases hc : l[k] = 10
      · rw [if_pos hc] at hs
        have gc : ((l[k].toNat : Int) == 10) = true := by rw [hc]; rfl
        have HS := Lib.hid hs
        clear hs hc
        go_wp2
        go_round
        case rel => exact ⟨k + 1, (q.1 + 1, 1), by omega, by go_num, by go_num, rfl, HS.out⟩
        case measure => simp [intOf]; omega
      · rw [if_neg hc] at hs
        have gc : ((l[k].toNat : Int) == 10) = false := byte_ne hc
        have HS := Lib.hid hs
        clear hs hc
        go_wp2
        go_round
        case rel => exact ⟨k + 1, (q.1, q.2 + 1), by omega, by go_num, rfl, by go_num, HS.out⟩
        case measure => simp [intOf]; omega
    · have hkn : k = n := by omega
      subst hkn
      go_wp2
      go_ret2
      refine ⟨?_, rfl⟩
      rw [HQ.out]
      rfl

set_option maxHeartbeats 1000000 in
set_option maxRecDepth 100000 in
theorem joins_long (t b : List UInt8) (w : World) (h1 : t.length ≤ 140737488355328) (h2 : b.length ≤ 140737488355328) (h : 16384 < t.length + b.length + 1) :
    Calls Try.prog 7 #[.string (bt t), .string (bt b)] w fun e w' => e = .returned (.bool true) ∧ Below w.heap.size w w' := by
  go_enter Try.func7, Try.ntmps7
  go_wp2_with fail
  refine (awake_any _).mono ?_
  rintro e w1 ⟨rfl, hb⟩
  go_wp2
  go_ret
  exact ⟨rfl, hb⟩

set_option maxHeartbeats 1000000 in
set_option maxRecDepth 100000 in
theorem joins_err (t b : List UInt8) (w : World) (d : Dg) (h : t.length + b.length + 1 ≤ 16384) (hT : readL t = .error d) (hn : d.num ≠ 0) :
    Calls Try.prog 7 #[.string (bt t), .string (bt b)] w fun e w' => e = .returned (.bool true) ∧ Below w.heap.size w w' := by
  have HT := Lib.hid hT
  have g1 : (d.num != 0) = true := by simp [hn]
  clear hT hn
  go_enter Try.func7, Try.ntmps7
  go_wp2_with fail
  refine (read_err HT.out (by simp [maxLen]; omega)).mono ?_
  rintro e w1 ⟨rfl, hb1⟩
  have HB1 := Lib.hid hb1
  clear hb1
  unfold diagV
  go_wp2_with fail
  refine (read_some (by simp [maxLen]; omega)).mono ?_
  rintro e w2 ⟨v, l, c, m, rfl, hb2⟩
  have y1 : w1.heap.size < w2.heap.size := by have := hb2.size; simp at this; omega
  obtain ⟨p0, p1, p2, p3⟩ := (diagAt_new w1 d.line d.col d.num).below hb2 (by simp)
  have HB2 := Lib.hid hb2
  clear hb2
  unfold diagV
  go_wp2_with fail
  refine (awake_any _).mono ?_
  rintro e w3 ⟨rfl, hb3⟩
  go_wp2
  go_ret
  refine ⟨rfl, ?_⟩
  exact below_two HB1.out HB2.out hb3

set_option maxHeartbeats 1000000 in
set_option maxRecDepth 100000 in
theorem joins_err2 (t b : List UInt8) (w : World) (ts : List Tk) (d : Dg) (h : t.length + b.length + 1 ≤ 16384) (hT : readL t = .ok ts) (hM : readL b = .error d) (hn : d.num ≠ 0) :
    Calls Try.prog 7 #[.string (bt t), .string (bt b)] w fun e w' => e = .returned (.bool true) ∧ Below w.heap.size w w' := by
  have HT := Lib.hid hT
  have HM := Lib.hid hM
  have g1 : (d.num != 0) = true := by simp [hn]
  clear hT hM hn
  go_enter Try.func7, Try.ntmps7
  go_wp2_with fail
  refine (read_ok HT.out (by simp [maxLen]; omega)).mono ?_
  rintro e w1 ⟨v, rfl, _, hb1⟩
  have HB1 := Lib.hid hb1
  clear hb1
  unfold diagV
  go_wp2_with fail
  refine (read_err HM.out (by simp [maxLen]; omega)).mono ?_
  rintro e w2 ⟨rfl, hb2⟩
  have y1 : w1.heap.size < w2.heap.size := by have := hb2.size; simp at this; omega
  obtain ⟨p0, p1, p2, p3⟩ := (diagAt_new w1 0 0 0).below hb2 (by simp)
  have HB2 := Lib.hid hb2
  clear hb2
  unfold diagV
  go_wp2_with fail
  refine (awake_any _).mono ?_
  rintro e w3 ⟨rfl, hb3⟩
  go_wp2
  go_ret
  refine ⟨rfl, ?_⟩
  exact below_two HB1.out HB2.out hb3
end Go.Proofs.Ytjnkjciglkfbaaa
