/- The contract of the reference's Has. No condition. -/
import Derived.Test.YtnbbbfjjknkioaaExA
namespace Go.Proofs.Ytnbbbfjjknkioaa
open Go.RowKit Ex0
attribute [local go_sem] bt_size bt_list bt_toList

set_option maxHeartbeats 1000000 in
theorem has_any (v : Value) (ns : List (List UInt8)) (x : List UInt8) (w : World) (hl : ns.length ≤ 1048576) (hv : NsV (Old w.heap.size) w v ns) :
    Calls Try.prog 16 #[v, .string (bt x)] w fun e w' => e = .returned (.bool (decide (x ∈ ns))) ∧ w = w' := by
  obtain ⟨a, c, rfl⟩ := hv.slice
  have HV := Lib.hid hv
  clear hv
  go_enter Try.func16, Try.ntmps16
  go_wp2_with fail
  go_loop [5] (fun i => ∃ k : Nat, k ≤ ns.length ∧ i = .int .i64 k ∧ ∀ j (h : j < k) (h' : j < ns.length), ns[j] ≠ x) (fun i => ns.length - (intOf i).toNat)
  case atStart => exact ⟨0, Nat.zero_le _, rfl, fun j h => by omega⟩
  case round =>
    obtain ⟨k, hk, rfl, hno⟩ := hrel
    have HN := Lib.hid hno
    clear hno
    by_cases hlt : k < ns.length
    · rcases HV.out with ⟨h, _⟩ | ⟨_, b, o, cp, he, hb, hlc, hcm, hat⟩
      · subst h; simp at hlt
      simp only [Value.slice.injEq, true_and] at he
      obtain ⟨rfl, rfl⟩ := he
      have h0 := hat k hlt
      have HAt := Lib.hid hat
      clear hat
      unfold maxLen at hcm
      obtain ⟨y, hy⟩ : ∃ y, ns[k] = y := ⟨_, rfl⟩
      rw [hy] at h0
      have HY := Lib.hid hy
      clear hy
      by_cases hyx : y = x
      · subst hyx
        have HM := Lib.hid (show y ∈ ns from HY.out ▸ List.getElem_mem hlt)
        go_wp2_with fail
        go_ret
        exact ⟨by rw [decide_eq_true HM.out]; rfl, rfl⟩
      · have hbx : (y == x) = false := by simpa using hyx
        have HX := Lib.hid hyx
        clear hyx
        go_wp2_with fail
        go_round
        case rel => exact ⟨k + 1, by omega, by go_num, fun j h h' => by
          by_cases hj : j = k
          · subst hj; rw [HY.out]; exact HX.out
          · exact HN.out j (by omega) h'⟩
        case measure => simp [intOf]; omega
    · have HM := Lib.hid (show ¬ x ∈ ns from fun h => by
        obtain ⟨j, hj, e⟩ := List.getElem_of_mem h
        exact HN.out j (by omega) hj e)
      go_wp2_with fail
      go_ret
      exact ⟨by rw [decide_eq_false HM.out]; rfl, rfl⟩
end Go.Proofs.Ytnbbbfjjknkioaa
