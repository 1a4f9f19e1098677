/- The walks of the law LexFirst: for any two texts it answers true and leaves what was there. No condition but that each text is no longer than 2^47 bytes. -/
import Derived.Test.YtjnkjciglkfbaaaAwake
import Derived.Test.YtjnkjciglkfbaaaJoin
import Derived.Deep.QuietTactic
import Derived.BigQuiet
namespace Go.Proofs.Ytjnkjciglkfbaaa
open Go.RowKit Lx
attribute [local go_sem] bt_size bt_get bt_list bt_toList bt_drop bt_take bt_nl bt_app

theorem below_two {w w1 w2 w3 : World} {o1 o2 : Obj} (h1 : Below w.heap.size w w1) (h2 : Below (w1.alloc o1).heap.size (w1.alloc o1) w2) (h3 : Below (w2.alloc o2).heap.size (w2.alloc o2) w3) : Below w.heap.size w w3 := by
  have z1 := h1.size
  have z2 := h2.size
  simp at z2
  exact (h1.trans ((below_via h2).mono z1)).trans ((below_via h3).mono (by omega))

theorem read_some {l : List UInt8} {w : World} (hs : l.length ≤ maxLen) :
    Calls Try.prog 8 #[.string (bt l)] w fun e w' => ∃ v a b c, e = .returned (.tuple #[v, diagV a b c]) ∧ Below w.heap.size w w' :=
  (read_any l w hs).mono fun e w' hp => by
    unfold ReadPost at hp
    split at hp
    · exact ⟨_, _, _, _, hp.1, hp.2⟩
    · obtain ⟨v, h1, _, h2⟩ := hp
      exact ⟨_, _, _, _, h1, h2⟩

set_option maxHeartbeats 1000000 in
set_option maxRecDepth 100000 in
theorem first_long (t b : List UInt8) (w : World) (h1 : t.length ≤ 140737488355328) (h2 : b.length ≤ 140737488355328) (h : 16384 < t.length + b.length + 1) :
    Calls Try.prog 5 #[.string (bt t), .string (bt b)] w fun e w' => e = .returned (.bool true) ∧ Below w.heap.size w w' := by
  go_enter Try.func5, Try.ntmps5
  go_wp2_with fail
  refine (awake_any _).mono ?_
  rintro e w1 ⟨rfl, hb⟩
  go_wp2
  go_ret
  exact ⟨rfl, hb⟩

set_option maxHeartbeats 1000000 in
set_option maxRecDepth 100000 in
theorem first_err (t b : List UInt8) (w : World) (d : Dg) (h : t.length + b.length + 1 ≤ 16384) (hT : readL (t ++ [10]) = .error d) (hM : readL (t ++ 10 :: b) = .error d) (hn : d.num ≠ 0) (hn2 : d.num ≠ 14) :
    Calls Try.prog 5 #[.string (bt t), .string (bt b)] w fun e w' => e = .returned (.bool true) ∧ Below w.heap.size w w' := by
  have HT := Lib.hid hT
  have HM := Lib.hid hM
  have g1 : (d.num != 0) = true := by simp [hn]
  have g2 : (d.num != 14) = true := by simp [hn2]
  clear hT hM hn hn2
  go_enter Try.func5, Try.ntmps5
  go_wp2_with fail
  refine (read_err HT.out (by simp [maxLen]; omega)).mono ?_
  rintro e w1 ⟨rfl, hb1⟩
  have HB1 := Lib.hid hb1
  clear hb1
  unfold diagV
  go_wp2_with fail
  refine (read_err HM.out (by simp [maxLen]; omega)).mono ?_
  rintro e w2 ⟨rfl, hb2⟩
  have y1 : w1.heap.size < w2.heap.size := by have := hb2.size; simp at this; omega
  obtain ⟨p0, p1, p2, p3⟩ := (diagAt_new w1 d.line d.col d.num).below hb2 (by simp)
  have HB2 := Lib.hid hb2
  clear hb2
  unfold diagV
  go_wp2_with fail
  refine (awake_any _).mono ?_
  rintro e w3 ⟨rfl, hb3⟩
  go_wp2
  go_ret
  refine ⟨rfl, ?_⟩
  exact below_two HB1.out HB2.out hb3

set_option maxHeartbeats 1000000 in
set_option maxRecDepth 100000 in
theorem first_comment (t b : List UInt8) (w : World) (d : Dg) (h : t.length + b.length + 1 ≤ 16384) (hT : readL (t ++ [10]) = .error d) (hn2 : d.num = 14) :
    Calls Try.prog 5 #[.string (bt t), .string (bt b)] w fun e w' => e = .returned (.bool true) ∧ Below w.heap.size w w' := by
  have HT := Lib.hid hT
  obtain ⟨dl, dc, dn⟩ := d
  simp only at hn2
  subst hn2
  clear hT
  go_enter Try.func5, Try.ntmps5
  go_wp2_with fail
  refine (read_err HT.out (by simp [maxLen]; omega)).mono ?_
  rintro e w1 ⟨rfl, hb1⟩
  have HB1 := Lib.hid hb1
  clear hb1
  unfold diagV
  go_wp2_with fail
  refine (read_some (by simp [maxLen]; omega)).mono ?_
  rintro e w2 ⟨v, l, c, m, rfl, hb2⟩
  have y1 : w1.heap.size < w2.heap.size := by have := hb2.size; simp at this; omega
  obtain ⟨p0, p1, p2, p3⟩ := (diagAt_new w1 dl dc 14).below hb2 (by simp)
  have HB2 := Lib.hid hb2
  clear hb2
  unfold diagV
  go_wp2_with fail
  refine (awake_any _).mono ?_
  rintro e w3 ⟨rfl, hb3⟩
  go_wp2
  go_ret
  refine ⟨rfl, ?_⟩
  exact below_two HB1.out HB2.out hb3

set_option maxHeartbeats 1000000 in
set_option maxRecDepth 100000 in
theorem first_okerr (t b : List UInt8) (w : World) (ts : List Tk) (d : Dg) (h : t.length + b.length + 1 ≤ 16384) (hT : readL (t ++ [10]) = .ok ts) (hM : readL (t ++ 10 :: b) = .error d) (hn : d.num ≠ 0) :
    Calls Try.prog 5 #[.string (bt t), .string (bt b)] w fun e w' => e = .returned (.bool true) ∧ Below w.heap.size w w' := by
  have HT := Lib.hid hT
  have HM := Lib.hid hM
  have g1 : (d.num != 0) = true := by simp [hn]
  clear hT hM hn
  go_enter Try.func5, Try.ntmps5
  go_wp2_with fail
  refine (read_ok HT.out (by simp [maxLen]; omega)).mono ?_
  rintro e w1 ⟨v, rfl, _, hb1⟩
  have HB1 := Lib.hid hb1
  clear hb1
  unfold diagV
  go_wp2_with fail
  refine (read_err HM.out (by simp [maxLen]; omega)).mono ?_
  rintro e w2 ⟨rfl, hb2⟩
  have y1 : w1.heap.size < w2.heap.size := by have := hb2.size; simp at this; omega
  obtain ⟨p0, p1, p2, p3⟩ := (diagAt_new w1 0 0 0).below hb2 (by simp)
  have HB2 := Lib.hid hb2
  clear hb2
  unfold diagV
  go_wp2_with fail
  refine (awake_any _).mono ?_
  rintro e w3 ⟨rfl, hb3⟩
  go_wp2
  go_ret
  refine ⟨rfl, ?_⟩
  exact below_two HB1.out HB2.out hb3

end Go.Proofs.Ytjnkjciglkfbaaa
