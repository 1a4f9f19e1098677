/- The walk of the law LexJoins where both texts are read, and its whole contract: it answers true and leaves what was there. No condition but that each text is no longer than 2^47 bytes. -/
import Derived.Test.YtjnkjciglkfbaaaJoins
namespace Go.Proofs.Ytjnkjciglkfbaaa
open Go.RowKit Lx
attribute [local go_sem] bt_size bt_get bt_list bt_toList bt_drop bt_take bt_nl bt_app

/-- A token moved down by L lines. -/
def downT (L : Nat) (t : Tk) : Tk := { t with line := t.line + L }
theorem shT_zero (L : Nat) (t : Tk) : shT L 0 t = downT L t := by
  unfold shT downT shP
  simp

/-- At the head of each round of LexJoins' loop. -/
def JoinRel (w : World) (gl gm gn L : Nat) (fr : List Tk) (x : Tk) (ms : List Tk) (i : Value) (wr : World) : Prop :=
  ∃ q : Nat, q ≤ fr.length + ms.length ∧ i = .int .i64 q ∧ gl < wr.heap.size ∧ gm < wr.heap.size ∧ gn < wr.heap.size ∧ TokAt wr gl (fr ++ [x]) ∧ TokAt wr gm ms ∧ TokAt wr gn (fr ++ ms.map (downT L)) ∧ Below w.heap.size w wr

theorem join_next {w wr : World} {gl gm gn L j d : Nat} {fr : List Tk} {x : Tk} {ms : List Tk} {o : Obj} (hq : fr.length + j + 1 ≤ fr.length + ms.length) (h1 : TokAt wr gl (fr ++ [x])) (h2 : TokAt wr gm ms) (h3 : TokAt wr gn (fr ++ ms.map (downT L)))
    (hb : Below w.heap.size w wr) (z1 : gl < wr.heap.size) (z2 : gm < wr.heap.size) (z3 : gn < wr.heap.size) : JoinRel w gl gm gn L fr x ms (.int .i64 ((fr.length : Int) + (j : Int) + 1)) ((wr.alloc o).drewN d) := by
  have ha := hb.alloc hb.size o
  have t1 := h1.below (below_alloc wr o) z1
  have t2 := h2.below (below_alloc wr o) z2
  have t3 := h3.below (below_alloc wr o) z3
  exact ⟨fr.length + j + 1, hq, by go_num, by simp; omega, by simp; omega, by simp; omega, t1, t2, t3, ⟨ha.os, ha.tape, ha.output, ha.size, ha.block⟩⟩

set_option maxHeartbeats 1000000 in
set_option maxRecDepth 100000 in
theorem joins_ok (t b : List UInt8) (w : World) (fr : List Tk) (x : Tk) (ms : List Tk) (L : Nat) (h : t.length + b.length + 1 ≤ 16384) (hT : readL t = .ok (fr ++ [x])) (hM : readL b = .ok ms) (hN : readL (t ++ 10 :: b) = .ok (fr ++ ms.map (downT L)))
    (hL : (advL (1, 1) (t ++ [10])).1 = L + 1) (hL2 : L ≤ 20000) (h0 : 0 < ms.length) (hml : ms.length ≤ 20000) (hfl : fr.length ≤ 20000) (hbd : ∀ x ∈ ms, x.line ≤ 20000) :
    Calls Try.prog 7 #[.string (bt t), .string (bt b)] w fun e w' => e = .returned (.bool true) ∧ Below w.heap.size w w' := by
  have HT := Lib.hid hT
  have HM := Lib.hid hM
  have HN := Lib.hid hN
  have HL := Lib.hid hL
  have HBD := Lib.hid hbd
  clear hT hM hN hL hbd
  have g0 : ((ms.length : Int) == 0) = false := beq_eq_false_iff_ne.2 (by omega)
  go_enter Try.func7, Try.ntmps7
  go_wp2_with fail
  refine (read_ok HT.out (by simp [maxLen]; omega)).mono ?_
  rintro e w1 ⟨v, rfl, ho1, hb1⟩
  obtain ⟨gl, cap1, rfl, hg1, hl1, hc1, ht1⟩ := toks_form ho1 (by simp)
  have HB1 := Lib.hid hb1
  clear hb1 ho1
  unfold diagV
  go_wp2_with fail
  refine (read_ok HM.out (by simp [maxLen]; omega)).mono ?_
  rintro e w2 ⟨v, rfl, ho2, hb2⟩
  obtain ⟨gm, cap2, rfl, hg2, hl2, hc2, ht2⟩ := toks_form ho2 h0
  have y1 : w1.heap.size < w2.heap.size := by have := hb2.size; simp at this; omega
  have D1 := (diagAt_new w1 0 0 0).below hb2 (by simp)
  obtain ⟨p0, p1, p2, p3⟩ := D1
  have T1 : TokAt w2 gl (fr ++ [x]) := (ht1.below (below_alloc w1 _) hl1).below hb2 (by simp; omega)
  have HB2 := Lib.hid hb2
  clear hb2 ho2 ht1
  have HT1 := Lib.hid T1
  have HT2 := Lib.hid ht2
  clear T1 ht2
  unfold diagV
  simp only [List.length_append, List.length_cons, List.length_nil, Nat.zero_add] at hc1 ⊢
  go_wp2_with fail
  refine (read_ok HN.out (by simp [maxLen]; omega)).mono ?_
  rintro e w3 ⟨v, rfl, ho3, hb3⟩
  obtain ⟨gn, cap3, rfl, hg3, hl3, hc3, ht3⟩ := toks_form ho3 (by simp; omega)
  have y2 : w2.heap.size < w3.heap.size := by have := hb3.size; simp at this; omega
  have T1 : TokAt w3 gl (fr ++ [x]) := (HT1.out.below (below_alloc w2 _) (by omega)).below hb3 (by simp; omega)
  have T2 : TokAt w3 gm ms := (HT2.out.below (below_alloc w2 _) (by omega)).below hb3 (by simp; omega)
  have HB3 := Lib.hid hb3
  clear hb3 ho3 p0 p1 p2 p3 HT1 HT2
  have HT1 := Lib.hid T1
  have HT2 := Lib.hid T2
  have HT3 := Lib.hid ht3
  clear T1 T2 ht3
  unfold diagV
  simp only [List.length_append, List.length_map] at hc3 ⊢
  go_wp2_with fail
  rw [show ((t.length : Int) + 1) = ((t.length + 1 : Nat) : Int) from by omega]
  refine (place_any (t ++ [10]) (t.length + 1) _ (by simp) (by simp; omega)).mono ?_
  rintro e w' ⟨rfl, rfl⟩
  rw [List.take_of_length_le (by simp)]
  unfold placeR
  rw [HL.out]
  generalize (advL (1, 1) (t ++ [10])).2 = C at *
  go_wp2
  go_loopw [13] (fun i wr => JoinRel w gl gm gn L fr x ms i wr) (fun i _ => fr.length + ms.length - (intOf i).toNat)
  case atStart =>
    have hz := HB1.out.size
    have hx := HB1.out.trans ((below_via HB2.out).mono hz)
    have hy := hx.trans ((below_via HB3.out).mono hx.size)
    exact ⟨0, Nat.zero_le _, rfl, by simp; omega, by simp; omega, by simp; omega, HT1.out.below (below_alloc w3 _) (by omega), HT2.out.below (below_alloc w3 _) (by omega), HT3.out.below (below_alloc w3 _) hl3, hy.alloc hy.size _⟩
  case round =>
    obtain ⟨q, hq, rfl, hz1, hz2, hz3, ht1, ht2, ht3, hbe⟩ := hrel
    have HBe := Lib.hid hbe
    have HT1' := Lib.hid ht1
    have HT2' := Lib.hid ht2
    have HT3' := Lib.hid ht3
    clear HT1 HT2 HT3 HB1 HB2 HB3 hbe
    by_cases hlt : q < fr.length
    · obtain ⟨a0, a1, a2, a3, a4⟩ := ht1 q fr[q] (by simp [List.getElem?_append_left hlt])
      obtain ⟨b0, b1, b2, b3, b4⟩ := ht3 q fr[q] (by simp [List.getElem?_append_left hlt])
      clear ht1 ht2 ht3
      generalize fr[q] = tk at *
      go_wp2
      go_quiet (fail)
      go_wp2
      go_roundw
      case rel => exact ⟨q + 1, by omega, by go_num, hz1, hz2, hz3, HT1'.out, HT2'.out, HT3'.out, ⟨HBe.out.os, HBe.out.tape, HBe.out.output, HBe.out.size, HBe.out.block⟩⟩
      case measure => simp [intOf]; omega
    · by_cases hlt2 : q < fr.length + ms.length
      · obtain ⟨j, rfl⟩ : ∃ j, q = fr.length + j := ⟨q - fr.length, by omega⟩
        have hj : j < ms.length := by omega
        obtain ⟨a0, a1, a2, a3, a4⟩ := ht2 j ms[j] (by simp [hj])
        obtain ⟨b0, b1, b2, b3, b4⟩ := ht3 (fr.length + j) (downT L ms[j]) (by rw [List.getElem?_append_right (by omega)]; simp [hj])
        have l1 := HBD.out ms[j] (List.getElem_mem hj)
        clear ht1 ht2 ht3
        generalize ms[j] = tk at *
        simp only [downT, Int.natCast_add] at b0 b1 b2 b3 b4
        have hix : ((fr.length : Int) + (j : Int) - ((fr.length : Int) + 1) + 1).toNat = j := by omega
        go_wp2
        go_quiet (fail)
        go_wp2
        go_roundw
        case rel => exact join_next (by omega) HT1'.out HT2'.out HT3'.out HBe.out hz1 hz2 hz3
        case measure => simp [intOf]; omega
      · clear ht1 ht2 ht3
        go_wp2_with fail
        refine (awake_any _).mono ?_
        rintro e w4 ⟨rfl, hb4⟩
        go_wp2
        go_ret
        exact ⟨rfl, HBe.out.trans (hb4.mono HBe.out.size)⟩

theorem joins_any (t b : List UInt8) (w : World) (h1 : t.length ≤ 140737488355328) (h2 : b.length ≤ 140737488355328) :
    Calls Try.prog 7 #[.string (bt t), .string (bt b)] w fun e w' => e = .returned (.bool true) ∧ Below w.heap.size w w' := by
  by_cases h : 16384 < t.length + b.length + 1
  · exact joins_long t b w h1 h2 h
  have h' : t.length + b.length + 1 ≤ 16384 := by omega
  have rT : readL t = lx t (1, 1) := readL_lx (by omega)
  have rB : readL b = lx b (1, 1) := readL_lx (by omega)
  have rM : readL (t ++ 10 :: b) = lx (t ++ 10 :: b) (1, 1) := readL_lx (by simp; omega)
  cases hx : readL t with
  | error d =>
    rw [hx] at rT
    have he := lx_err _ _ _ _ (Nat.le_refl _) (by simp) (by simp) rT.symm
    exact joins_err t b w d h' hx (by omega)
  | ok ts =>
    rw [hx] at rT
    cases hy : readL b with
    | error d =>
      rw [hy] at rB
      have he := lx_err _ _ _ _ (Nat.le_refl _) (by simp) (by simp) rB.symm
      exact joins_err2 t b w ts d h' hx hy (by omega)
    | ok ms =>
      rw [hy] at rB
      have j1 := lx_join b t.length t (1, 1) (Nat.le_refl _)
      rw [← rT] at j1
      obtain ⟨fr, e1, k1⟩ := j1
      have hcnt := lx_count _ _ _ _ (Nat.le_refl _) rT.symm
      have hcm := lx_count _ _ _ _ (Nat.le_refl _) rB.symm
      obtain ⟨f2, e2⟩ := lx_ne _ _ _ _ (Nat.le_refl _) rB.symm
      rw [e1] at hcnt
      simp at hcnt
      have hL := adv_bd t (1, 1) (by simp)
      simp only at hL
      have hsh : lx b ((advL (1, 1) t).1 + 1, 1) = .ok (ms.map (downT (advL (1, 1) t).1)) := by
        have := lx_sh (advL (1, 1) t).1 0 b.length b (1, 1) (Nat.le_refl _) (by simp)
        rw [← rB] at this
        have e3 : shP (advL (1, 1) t).1 0 (1, 1) = ((advL (1, 1) t).1 + 1, 1) := by simp [shP]; omega
        rw [e3] at this
        rw [this]
        simp only [shR]
        congr 1
        exact List.map_congr_left fun x _ => shT_zero _ x
      rw [lx_nl, hsh] at k1
      exact joins_ok t b w fr _ ms (advL (1, 1) t).1 h' (by rw [hx, e1]) hy (by rw [rM, k1]; rfl) (by rw [advL_append]; rfl) (by omega) (by rw [e2]; simp) (by omega) (by omega) (fun x hx' => by
        have := tok_bound rB.symm hx'
        omega)
end Go.Proofs.Ytjnkjciglkfbaaa
