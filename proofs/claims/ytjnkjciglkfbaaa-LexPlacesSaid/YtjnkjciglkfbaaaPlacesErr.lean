/- The walk of the law LexPlaces where the text is wrong: it answers true and leaves what was there. -/
import Derived.Test.YtjnkjciglkfbaaaPlaces
namespace Go.Proofs.Ytjnkjciglkfbaaa
open Go.RowKit Lx
attribute [local go_sem] bt_size bt_get bt_list bt_toList bt_drop bt_take bt_nl bt_app

set_option maxHeartbeats 1000000 in
set_option maxRecDepth 100000 in
theorem places_err (t : List UInt8) (w : World) (h1 : t.length ≤ 140737488355328) (d : Dg) (hT : readL t = .error d) (hn : 10 ≤ d.num) (hn2 : d.num ≤ 14) (hl : 1 ≤ d.line) (hc : 1 ≤ d.col) :
    Calls Try.prog 4 #[.string (bt t)] w fun e w' => e = .returned (.bool true) ∧ Below w.heap.size w w' := by
  have HT := Lib.hid hT
  clear hT
  have g1 : (d.num == 0) = false := beq_eq_false_iff_ne.2 (by omega)
  have g2 : ((d.line : Int) == 0) = false := beq_eq_false_iff_ne.2 (by omega)
  have g3 : ((d.col : Int) == 0) = false := beq_eq_false_iff_ne.2 (by omega)
  have l1 : (1 : Int) ≤ (d.line : Int) := by omega
  have l2 : (1 : Int) ≤ (d.col : Int) := by omega
  go_enter Try.func4, Try.ntmps4
  go_wp2_with fail
  refine (read_err HT.out (by simp [maxLen]; omega)).mono ?_
  rintro e w1 ⟨rfl, hb1⟩
  have HB1 := Lib.hid hb1
  clear hb1
  unfold diagV
  go_wp2_with fail
  refine (awake_any _).mono ?_
  rintro e w3 ⟨rfl, hb3⟩
  go_wp2
  go_ret
  exact ⟨rfl, HB1.out.trans ((below_via hb3).mono HB1.out.size)⟩
end Go.Proofs.Ytjnkjciglkfbaaa
