/- The walk of the law LexShifts where the text is read, and its whole contract: it answers true and leaves what was there. No condition but that the text is no longer than 2^47 bytes. -/
import Derived.Test.YtjnkjciglkfbaaaShifts
namespace Go.Proofs.Ytjnkjciglkfbaaa
open Go.RowKit Lx

attribute [local go_sem] bt_size bt_get bt_list bt_toList bt_drop bt_take bt_nl bt_app bt_sp nls_len sps_len

/-- At the head of each round of LexShifts' last loop. -/
def ShiftRel (w : World) (g1 g2 m n : Nat) (ts : List Tk) (i : Value) (wr : World) : Prop :=
  ∃ q : Nat, q ≤ ts.length ∧ i = .int .i64 q ∧ g1 < wr.heap.size ∧ g2 < wr.heap.size ∧ TokAt wr g1 ts ∧ TokAt wr g2 (ts.map (shT m n)) ∧ Below w.heap.size w wr

theorem shift_next {w wr : World} {g1 g2 m n q d : Nat} {ts : List Tk} {o : Obj} (hq : q + 1 ≤ ts.length) (h1 : TokAt wr g1 ts) (h2 : TokAt wr g2 (ts.map (shT m n))) (hb : Below w.heap.size w wr) (z1 : g1 < wr.heap.size) (z2 : g2 < wr.heap.size) :
    ShiftRel w g1 g2 m n ts (.int .i64 ((q : Int) + 1)) ((wr.alloc o).drewN d) := by
  have ha := hb.alloc hb.size o
  have t1 := h1.below (below_alloc wr o) z1
  have t2 := h2.below (below_alloc wr o) z2
  exact ⟨q + 1, hq, by go_num, by simp; omega, by simp; omega, t1, t2, ⟨ha.os, ha.tape, ha.output, ha.size, ha.block⟩⟩

set_option maxHeartbeats 1000000 in
set_option maxRecDepth 100000 in
theorem shifts_ok (t : List UInt8) (b l : Int) (m n : Nat) (w : World) (h1 : t.length ≤ 140737488355328) (hn : min (max b 0) 40 = (n : Int)) (hm : min (max l 0) 40 = (m : Int)) (hn4 : n ≤ 40) (hm4 : m ≤ 40) (h : m + n + t.length ≤ 16384) (ts : List Tk) (hT : readL t = .ok ts) (hM : readL (nls m ++ sps n ++ t) = .ok (ts.map (shT m n))) (h0 : 0 < ts.length) (htl : ts.length ≤ 20000) (hbd : ∀ x ∈ ts, x.line ≤ 20000 ∧ x.col ≤ 20000) :
    Calls Try.prog 6 #[.string (bt t), .int .i64 b, .int .i64 l] w fun e w' => e = .returned (.bool true) ∧ Below w.heap.size w w' := by
  have HN := Lib.hid hn
  have HM := Lib.hid hm
  clear hn hm
  have HT := Lib.hid hT
  have HX := Lib.hid hM
  have HBD := Lib.hid hbd
  clear hT hM hbd
  go_enter Try.func6, Try.ntmps6
  go_wp2
  rw [HN.out, HM.out]
  go_loop [9, 10] (fun s i => ∃ k : Nat, k ≤ m ∧ i = .int .i64 k ∧ s = .string (bt (nls k))) (fun _ i => m - (intOf i).toNat)
  case atStart => exact ⟨0, Nat.zero_le _, rfl, rfl⟩
  case round =>
    obtain ⟨k, hk, rfl, rfl⟩ := hrel
    by_cases hlt : k < m
    · go_wp2
      go_round
      case rel => exact ⟨k + 1, by omega, by go_num, by rw [nls_snoc]⟩
      case measure => simp [intOf]; omega
    · obtain rfl : k = m := by omega
      go_wp2
      go_loop [9, 11] (fun s i => ∃ j : Nat, j ≤ n ∧ i = .int .i64 j ∧ s = .string (bt (nls k ++ sps j))) (fun _ i => n - (intOf i).toNat)
      case atStart => exact ⟨0, Nat.zero_le _, rfl, by simp [sps]⟩
      case round =>
        obtain ⟨j, hj, rfl, rfl⟩ := hrel
        by_cases hlt : j < n
        · go_wp2
          go_round
          case rel => exact ⟨j + 1, by omega, by go_num, by first | rw [sps_snoc2] | rw [sps_snoc]⟩
          case measure => simp [intOf]; omega
        · obtain rfl : j = n := by omega
          go_wp2_with fail
          refine (read_ok HT.out (by simp [maxLen]; omega)).mono ?_
          rintro e w1 ⟨v, rfl, ho1, hb1⟩
          obtain ⟨g1, cap1, rfl, hg1, hl1, hc1, ht1⟩ := toks_form ho1 h0
          have HB1 := Lib.hid hb1
          clear hb1 ho1
          unfold diagV
          go_wp2_with fail
          try rw [← List.append_assoc]
          refine (read_ok HX.out (by simp [maxLen, nls_len, sps_len]; omega)).mono ?_
          rintro e w2 ⟨v, rfl, ho2, hb2⟩
          obtain ⟨g2, cap2, rfl, hg2, hl2, hc2, ht2⟩ := toks_form ho2 (by simpa using h0)
          have y1 : w1.heap.size < w2.heap.size := by have := hb2.size; simp at this; omega
          obtain ⟨p0, p1, p2, p3⟩ := (diagAt_new w1 0 0 0).below hb2 (by simp)
          have T1 : TokAt w2 g1 ts := (ht1.below (below_alloc w1 _) hl1).below hb2 (by simp; omega)
          have HT1 := Lib.hid T1
          have HT2 := Lib.hid ht2
          have HB2 := Lib.hid hb2
          clear hb2 T1 ht1 ht2 ho2
          unfold diagV
          simp only [List.length_map] at hc2 ⊢
          go_wp2
          go_loopw [16] (fun i wr => ShiftRel w g1 g2 k j ts i wr) (fun i _ => ts.length - (intOf i).toNat)
          case atStart =>
            have hz := HB1.out.size
            exact ⟨0, Nat.zero_le _, rfl, by simp; omega, by simp; omega, HT1.out.below (below_alloc w2 _) (by omega), HT2.out.below (below_alloc w2 _) hl2, (HB1.out.trans ((below_via HB2.out).mono hz)).alloc (by omega) _⟩
          case round =>
            obtain ⟨q, hq, rfl, hz1, hz2, ht1, ht2, hbe⟩ := hrel
            have HBe := Lib.hid hbe
            have HT1' := Lib.hid ht1
            have HT2' := Lib.hid ht2
            clear HT1 HT2 HB1 HB2 p0 p1 p2 p3 hbe
            by_cases hlt : q < ts.length
            · obtain ⟨a0, a1, a2, a3, a4⟩ := ht1 q ts[q] (by simp [hlt])
              obtain ⟨b0, b1, b2, b3, b4⟩ := ht2 q (shT k j ts[q]) (by simp [hlt])
              obtain ⟨l1, l2⟩ := HBD.out ts[q] (List.getElem_mem hlt)
              clear ht1 ht2
              generalize ts[q] = tk at *
              simp only [shT, shP] at b0 b1 b2 b3 b4
              by_cases hl : tk.line = 1
              · have gl : ((tk.line : Int) == 1) = true := by simp [hl]
                rw [if_pos hl] at b4
                simp only [Int.natCast_add] at b3 b4
                clear hl
                go_wp2
                go_quiet (fail)
                go_wp2
                go_roundw
                case rel => exact shift_next (by omega) HT1'.out HT2'.out HBe.out hz1 hz2
                case measure => simp [intOf]; omega
              · have gl : ((tk.line : Int) == 1) = false := by simp; omega
                rw [if_neg hl] at b4
                simp only [Int.natCast_add] at b3
                clear hl
                go_wp2
                go_quiet (fail)
                go_wp2
                go_roundw
                case rel => exact shift_next (by omega) HT1'.out HT2'.out HBe.out hz1 hz2
                case measure => simp [intOf]; omega
            · clear ht1 ht2
              go_wp2_with fail
              refine (awake_any _).mono ?_
              rintro e w3 ⟨rfl, hb3⟩
              go_wp2
              go_ret
              exact ⟨rfl, HBe.out.trans (hb3.mono HBe.out.size)⟩

theorem shifts_any (t : List UInt8) (b l : Int) (w : World) (h1 : t.length ≤ 140737488355328) :
    Calls Try.prog 6 #[.string (bt t), .int .i64 b, .int .i64 l] w fun e w' => e = .returned (.bool true) ∧ Below w.heap.size w w' := by
  obtain ⟨n, hn, hn4⟩ : ∃ n : Nat, min (max b 0) 40 = (n : Int) ∧ n ≤ 40 := ⟨(min (max b 0) 40).toNat, by omega, by omega⟩
  obtain ⟨m, hm, hm4⟩ : ∃ m : Nat, min (max l 0) 40 = (m : Int) ∧ m ≤ 40 := ⟨(min (max l 0) 40).toNat, by omega, by omega⟩
  by_cases h : 16384 < m + n + t.length
  · exact shifts_long t b l m n w h1 hn hm hn4 hm4 h
  have h' : m + n + t.length ≤ 16384 := by omega
  have hr := read_ahead m n t h'
  have hx : readL t = lx t (1, 1) := readL_lx (by omega)
  cases hy : readL t with
  | error d =>
    rw [hy] at hr hx
    have he := lx_err _ _ _ _ (Nat.le_refl _) (by simp) (by simp) hx.symm
    have hp := err_bound hx.symm
    by_cases hl : d.line = 1
    · exact shifts_err1 t b l m n w h1 hn hm hn4 hm4 h' d hy (by rw [hr]; simp [shR, shD, shP, hl]) (by omega) hl (by omega) (by omega)
    · exact shifts_err2 t b l m n w h1 hn hm hn4 hm4 h' d hy (by rw [hr]; simp [shR, shD, shP, hl]) (by omega) hl (by omega) (by omega)
  | ok ts =>
    rw [hy] at hr hx
    obtain ⟨fr, e⟩ := lx_ne _ _ _ _ (Nat.le_refl _) hx.symm
    have hc := lx_count _ _ _ _ (Nat.le_refl _) hx.symm
    exact shifts_ok t b l m n w h1 hn hm hn4 hm4 h' ts hy hr (by rw [e]; simp) (by omega) (fun x hx' => by
      have := tok_bound hx.symm hx'
      omega)
end Go.Proofs.Ytjnkjciglkfbaaa
