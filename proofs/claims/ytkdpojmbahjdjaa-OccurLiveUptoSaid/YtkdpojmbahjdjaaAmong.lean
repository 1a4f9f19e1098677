/- Whether a name is among names: the library's Index and Contains, and the counter's isAmong. No condition but a bound on how many names there are. -/
import Derived.Test.YtkdpojmbahjdjaaCtr
namespace Go.Proofs.Ytkdpojmbahjdjaa
open Go.RowKit Ex0
attribute [local go_sem] bt_size bt_list bt_toList

set_option maxHeartbeats 1000000 in
theorem index_any (v : Value) (ns : List (List UInt8)) (x : List UInt8) (w : World) (M : Nat) (hl : ns.length ≤ 1048576) (hv : NsV (Old M) w v ns) :
    Calls Try.prog 79 #[v, .string (bt x)] w fun e w' => (∃ i : Int, e = .returned (.int .i64 i) ∧ (0 ≤ i ↔ x ∈ ns)) ∧ w = w' := by
  obtain ⟨a, c, rfl⟩ := hv.slice
  have HV := Lib.hid hv
  clear hv
  go_enter Try.func79, Try.ntmps79
  go_wp2_with fail
  go_loop [8] (fun i => ∃ k : Nat, k ≤ ns.length ∧ i = .int .i64 k ∧ ∀ j (h : j < k) (h' : j < ns.length), ns[j] ≠ x) (fun i => ns.length - (intOf i).toNat)
  case atStart => exact ⟨0, Nat.zero_le _, rfl, fun j h => by omega⟩
  case round =>
    obtain ⟨k, hk, rfl, hno⟩ := hrel
    have HN := Lib.hid hno
    clear hno
    by_cases hlt : k < ns.length
    · rcases HV.out with ⟨h, _⟩ | ⟨_, b, o, cp, he, hb, hlc, hcm, hat⟩
      · subst h; simp at hlt
      simp only [Value.slice.injEq, true_and] at he
      obtain ⟨rfl, rfl⟩ := he
      have h0 := hat k hlt
      have HAt := Lib.hid hat
      clear hat hb
      unfold maxLen at hcm
      obtain ⟨y, hy⟩ : ∃ y, ns[k] = y := ⟨_, rfl⟩
      rw [hy] at h0
      have HY := Lib.hid hy
      clear hy
      by_cases hyx : x = y
      · subst hyx
        have HM := Lib.hid (show x ∈ ns from HY.out ▸ List.getElem_mem hlt)
        go_wp2_with fail
        go_ret
        exact ⟨⟨_, rfl, by simp [HM.out]⟩, rfl⟩
      · have hbx : (x == y) = false := by simpa using hyx
        have HX := Lib.hid hyx
        clear hyx
        go_wp2_with fail
        go_round
        case rel => exact ⟨k + 1, by omega, by go_num, fun j h h' => by
          by_cases hj : j = k
          · subst hj; rw [HY.out]; exact fun e => HX.out e.symm
          · exact HN.out j (by omega) h'⟩
        case measure => simp [intOf]; omega
    · have HM := Lib.hid (show ¬ x ∈ ns from fun h => by
        obtain ⟨j, hj, e⟩ := List.getElem_of_mem h
        exact HN.out j (by omega) hj e)
      go_wp2_with fail
      go_ret
      exact ⟨⟨_, rfl, by simp [HM.out]⟩, rfl⟩

theorem contains_any (v : Value) (ns : List (List UInt8)) (x : List UInt8) (w : World) (M : Nat) (hl : ns.length ≤ 1048576) (hv : NsV (Old M) w v ns) :
    Calls Try.prog 64 #[v, .string (bt x)] w fun e w' => e = .returned (.bool (decide (x ∈ ns))) ∧ w = w' := by
  obtain ⟨a, c, rfl⟩ := hv.slice
  have HV := Lib.hid hv
  clear hv
  go_enter Try.func64, Try.ntmps64
  go_wp2_with fail
  refine (index_any _ ns x _ M hl HV.out).mono ?_
  rintro e w2 ⟨⟨i, rfl, hi⟩, rfl⟩
  have HI := Lib.hid hi
  clear hi
  go_wp2_with fail
  go_ret
  exact ⟨by rw [decide_eq_decide.2 HI.out]; rfl, rfl⟩

set_option maxHeartbeats 1000000 in
theorem among_any (cb kb : Nat) (v : Value) (ns : List (List UInt8)) (x : List UInt8) (p : Int) (w : World) (M : Nat) (hl : ns.length ≤ 1048576) (hv : NsV (Old M) w v ns) (hM : M ≤ cb) (hMw : M ≤ w.heap.size) (hc : Ctr w cb kb x p)
    (hp : 0 ≤ p ∧ p ≤ 1048576) :
    Calls Try.prog 44 #[.pointer (some ⟨cb, 0, none⟩), v] w fun e w' => e = .returned (.bool (decide (x ∈ ns))) ∧ Ct cb w w' ∧ Ctr w' cb kb x (p - ns.length) := by
  obtain ⟨a, c, rfl⟩ := hv.slice
  obtain ⟨c0, c1, c2, c3, f1⟩ := ctr_cell hc
  have HV := Lib.hid hv
  have HC := Lib.hid hc
  have hp0 := hp.1
  have hp1 := hp.2
  clear hv hc hp
  have HS := Lib.hid (ctr_set HC.out (p - ns.length))
  obtain ⟨d0, _⟩ := ctr_cell HS.out
  have HCt := Lib.hid ((Ct.refl cb w).set (b := cb) (o := 1) (.inl rfl) (.int .i64 (p - ns.length)))
  go_enter Try.func44, Try.ntmps44
  go_wp2_with fail
  refine (contains_any _ ns x _ M hl (HV.out.keep (keep_ct HCt.out hM hMw))).mono ?_
  rintro e w2 ⟨rfl, rfl⟩
  go_wp2_with fail
  go_ret
  exact ⟨rfl, HCt.out, HS.out⟩
end Go.Proofs.Ytkdpojmbahjdjaa
