/- The walks of the law LexShifts: for any text and any two numbers it answers true and leaves what was there. No condition but that the text is no longer than 2^47 bytes. -/
import Derived.Test.YtjnkjciglkfbaaaPos
namespace Go.Proofs.Ytjnkjciglkfbaaa
open Go.RowKit Lx

theorem bt_sp (a : List UInt8) : bt a ++ (⟨#[32]⟩ : ByteArray) = bt (a ++ [32]) := bt_app a [32]
theorem sps_snoc2 (a : List UInt8) (n : Nat) : a ++ (sps n ++ [32]) = a ++ sps (n + 1) := by rw [← List.append_assoc, sps_snoc]
theorem below_close {w X w3 : World} {o : Obj} (h : Below w.heap.size w X) (h3 : Below (X.alloc o).heap.size (X.alloc o) w3) : Below w.heap.size w w3 := h.trans ((below_via h3).mono h.size)
attribute [local go_sem] bt_size bt_get bt_list bt_toList bt_drop bt_take bt_nl bt_app bt_sp nls_len sps_len

set_option maxHeartbeats 1000000 in
set_option maxRecDepth 100000 in
theorem shifts_long (t : List UInt8) (b l : Int) (m n : Nat) (w : World) (h1 : t.length ≤ 140737488355328) (hn : min (max b 0) 40 = (n : Int)) (hm : min (max l 0) 40 = (m : Int)) (hn4 : n ≤ 40) (hm4 : m ≤ 40) (h : 16384 < m + n + t.length) :
    Calls Try.prog 6 #[.string (bt t), .int .i64 b, .int .i64 l] w fun e w' => e = .returned (.bool true) ∧ Below w.heap.size w w' := by
  have HN := Lib.hid hn
  have HM := Lib.hid hm
  clear hn hm
  go_enter Try.func6, Try.ntmps6
  go_wp2
  rw [HN.out, HM.out]
  go_loop [9, 10] (fun s i => ∃ k : Nat, k ≤ m ∧ i = .int .i64 k ∧ s = .string (bt (nls k))) (fun _ i => m - (intOf i).toNat)
  case atStart => exact ⟨0, Nat.zero_le _, rfl, rfl⟩
  case round =>
    obtain ⟨k, hk, rfl, rfl⟩ := hrel
    by_cases hlt : k < m
    · go_wp2
      go_round
      case rel => exact ⟨k + 1, by omega, by go_num, by rw [nls_snoc]⟩
      case measure => simp [intOf]; omega
    · obtain rfl : k = m := by omega
      go_wp2
      go_loop [9, 11] (fun s i => ∃ j : Nat, j ≤ n ∧ i = .int .i64 j ∧ s = .string (bt (nls k ++ sps j))) (fun _ i => n - (intOf i).toNat)
      case atStart => exact ⟨0, Nat.zero_le _, rfl, by simp [sps]⟩
      case round =>
        obtain ⟨j, hj, rfl, rfl⟩ := hrel
        by_cases hlt : j < n
        · go_wp2
          go_round
          case rel => exact ⟨j + 1, by omega, by go_num, by first | rw [sps_snoc2] | rw [sps_snoc]⟩
          case measure => simp [intOf]; omega
        · obtain rfl : j = n := by omega
          go_wp2_with fail
          refine (awake_any _).mono ?_
          rintro e w1 ⟨rfl, hb⟩
          go_wp2
          go_ret
          exact ⟨rfl, hb⟩

set_option maxHeartbeats 1000000 in
set_option maxRecDepth 100000 in
theorem shifts_err1 (t : List UInt8) (b l : Int) (m n : Nat) (w : World) (h1 : t.length ≤ 140737488355328) (hn : min (max b 0) 40 = (n : Int)) (hm : min (max l 0) 40 = (m : Int)) (hn4 : n ≤ 40) (hm4 : m ≤ 40) (h : m + n + t.length ≤ 16384) (d : Dg) (hT : readL t = .error d) (hM : readL (nls m ++ sps n ++ t) = .error ⟨d.line + m, d.col + n, d.num⟩) (hd : d.num ≠ 0) (hl : d.line = 1) (hb1 : d.line ≤ 20000) (hb2 : d.col ≤ 20000) :
    Calls Try.prog 6 #[.string (bt t), .int .i64 b, .int .i64 l] w fun e w' => e = .returned (.bool true) ∧ Below w.heap.size w w' := by
  have HN := Lib.hid hn
  have HM := Lib.hid hm
  clear hn hm
  have HT := Lib.hid hT
  have HX := Lib.hid hM
  have g1 : (d.num != 0) = true := by simp [hd]
  clear hT hM hd
  have g2 : ((d.line : Int) == 1) = true := by simp [hl]
  clear hl
  go_enter Try.func6, Try.ntmps6
  go_wp2
  rw [HN.out, HM.out]
  go_loop [9, 10] (fun s i => ∃ k : Nat, k ≤ m ∧ i = .int .i64 k ∧ s = .string (bt (nls k))) (fun _ i => m - (intOf i).toNat)
  case atStart => exact ⟨0, Nat.zero_le _, rfl, rfl⟩
  case round =>
    obtain ⟨k, hk, rfl, rfl⟩ := hrel
    by_cases hlt : k < m
    · go_wp2
      go_round
      case rel => exact ⟨k + 1, by omega, by go_num, by rw [nls_snoc]⟩
      case measure => simp [intOf]; omega
    · obtain rfl : k = m := by omega
      go_wp2
      go_loop [9, 11] (fun s i => ∃ j : Nat, j ≤ n ∧ i = .int .i64 j ∧ s = .string (bt (nls k ++ sps j))) (fun _ i => n - (intOf i).toNat)
      case atStart => exact ⟨0, Nat.zero_le _, rfl, by simp [sps]⟩
      case round =>
        obtain ⟨j, hj, rfl, rfl⟩ := hrel
        by_cases hlt : j < n
        · go_wp2
          go_round
          case rel => exact ⟨j + 1, by omega, by go_num, by first | rw [sps_snoc2] | rw [sps_snoc]⟩
          case measure => simp [intOf]; omega
        · obtain rfl : j = n := by omega
          go_wp2_with fail
          refine (read_err HT.out (by simp [maxLen]; omega)).mono ?_
          rintro e w1 ⟨rfl, hb1⟩
          have HB1 := Lib.hid hb1
          clear hb1
          unfold diagV
          go_wp2_with fail
          try rw [← List.append_assoc]
          refine (read_err HX.out (by simp [maxLen, nls_len, sps_len]; omega)).mono ?_
          rintro e w2 ⟨rfl, hb2⟩
          have y1 : w1.heap.size < w2.heap.size := by have := hb2.size; simp at this; omega
          obtain ⟨p0, p1, p2, p3⟩ := (diagAt_new w1 d.line d.col d.num).below hb2 (by simp)
          have f1 : ∀ i, w2.frozen? ⟨w1.heap.size, i, none⟩ = false := fun i => by
            rw [hb2.frozen (p := ⟨w1.heap.size, i, none⟩) (by simp)]
            exact World.frozen?_alloc_at _ _ _ _ rfl
          have HB2 := Lib.hid hb2
          clear hb2
          unfold diagV
          simp only [Int.natCast_add]
          go_wp2_with fail
          refine (awake_any _).mono ?_
          rintro e w3 ⟨rfl, hb3⟩
          go_wp2
          go_ret
          refine ⟨rfl, ?_⟩
          have hx := HB1.out.trans ((below_via HB2.out).mono HB1.out.size)
          exact below_close ((hx.setCell (p := ⟨w1.heap.size, 2, none⟩) HB1.out.size _).setCell (p := ⟨w1.heap.size, 1, none⟩) HB1.out.size _) hb3

set_option maxHeartbeats 1000000 in
set_option maxRecDepth 100000 in
theorem shifts_err2 (t : List UInt8) (b l : Int) (m n : Nat) (w : World) (h1 : t.length ≤ 140737488355328) (hn : min (max b 0) 40 = (n : Int)) (hm : min (max l 0) 40 = (m : Int)) (hn4 : n ≤ 40) (hm4 : m ≤ 40) (h : m + n + t.length ≤ 16384) (d : Dg) (hT : readL t = .error d) (hM : readL (nls m ++ sps n ++ t) = .error ⟨d.line + m, d.col, d.num⟩) (hd : d.num ≠ 0) (hl : d.line ≠ 1) (hb1 : d.line ≤ 20000) (hb2 : d.col ≤ 20000) :
    Calls Try.prog 6 #[.string (bt t), .int .i64 b, .int .i64 l] w fun e w' => e = .returned (.bool true) ∧ Below w.heap.size w w' := by
  have HN := Lib.hid hn
  have HM := Lib.hid hm
  clear hn hm
  have HT := Lib.hid hT
  have HX := Lib.hid hM
  have g1 : (d.num != 0) = true := by simp [hd]
  clear hT hM hd
  have g2 : ((d.line : Int) == 1) = false := by simp; omega
  clear hl
  go_enter Try.func6, Try.ntmps6
  go_wp2
  rw [HN.out, HM.out]
  go_loop [9, 10] (fun s i => ∃ k : Nat, k ≤ m ∧ i = .int .i64 k ∧ s = .string (bt (nls k))) (fun _ i => m - (intOf i).toNat)
  case atStart => exact ⟨0, Nat.zero_le _, rfl, rfl⟩
  case round =>
    obtain ⟨k, hk, rfl, rfl⟩ := hrel
    by_cases hlt : k < m
    · go_wp2
      go_round
      case rel => exact ⟨k + 1, by omega, by go_num, by rw [nls_snoc]⟩
      case measure => simp [intOf]; omega
    · obtain rfl : k = m := by omega
      go_wp2
      go_loop [9, 11] (fun s i => ∃ j : Nat, j ≤ n ∧ i = .int .i64 j ∧ s = .string (bt (nls k ++ sps j))) (fun _ i => n - (intOf i).toNat)
      case atStart => exact ⟨0, Nat.zero_le _, rfl, by simp [sps]⟩
      case round =>
        obtain ⟨j, hj, rfl, rfl⟩ := hrel
        by_cases hlt : j < n
        · go_wp2
          go_round
          case rel => exact ⟨j + 1, by omega, by go_num, by first | rw [sps_snoc2] | rw [sps_snoc]⟩
          case measure => simp [intOf]; omega
        · obtain rfl : j = n := by omega
          go_wp2_with fail
          refine (read_err HT.out (by simp [maxLen]; omega)).mono ?_
          rintro e w1 ⟨rfl, hb1⟩
          have HB1 := Lib.hid hb1
          clear hb1
          unfold diagV
          go_wp2_with fail
          try rw [← List.append_assoc]
          refine (read_err HX.out (by simp [maxLen, nls_len, sps_len]; omega)).mono ?_
          rintro e w2 ⟨rfl, hb2⟩
          have y1 : w1.heap.size < w2.heap.size := by have := hb2.size; simp at this; omega
          obtain ⟨p0, p1, p2, p3⟩ := (diagAt_new w1 d.line d.col d.num).below hb2 (by simp)
          have f1 : ∀ i, w2.frozen? ⟨w1.heap.size, i, none⟩ = false := fun i => by
            rw [hb2.frozen (p := ⟨w1.heap.size, i, none⟩) (by simp)]
            exact World.frozen?_alloc_at _ _ _ _ rfl
          have HB2 := Lib.hid hb2
          clear hb2
          unfold diagV
          simp only [Int.natCast_add]
          go_wp2_with fail
          refine (awake_any _).mono ?_
          rintro e w3 ⟨rfl, hb3⟩
          go_wp2
          go_ret
          refine ⟨rfl, ?_⟩
          have hx := HB1.out.trans ((below_via HB2.out).mono HB1.out.size)
          exact below_close (hx.setCell (p := ⟨w1.heap.size, 1, none⟩) HB1.out.size _) hb3

end Go.Proofs.Ytjnkjciglkfbaaa
