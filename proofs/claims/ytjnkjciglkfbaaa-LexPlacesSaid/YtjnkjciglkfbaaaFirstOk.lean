/- The walk of the law LexFirst where both texts are read: it answers true and leaves what was there. -/
import Derived.Test.YtjnkjciglkfbaaaFirst
namespace Go.Proofs.Ytjnkjciglkfbaaa
open Go.RowKit Lx
attribute [local go_sem] bt_size bt_get bt_list bt_toList bt_drop bt_take bt_nl bt_app

/-- At the head of each round of LexFirst's loop. -/
def FirstRel (w : World) (g1 g2 : Nat) (fr : List Tk) (x : Tk) (ms : List Tk) (i : Value) (wr : World) : Prop :=
  ∃ k : Nat, k ≤ fr.length ∧ i = .int .i64 k ∧ TokAt wr g1 (fr ++ [x]) ∧ TokAt wr g2 (fr ++ ms) ∧ Below w.heap.size w wr

set_option maxHeartbeats 1000000 in
set_option maxRecDepth 100000 in
theorem first_ok (t b : List UInt8) (w : World) (fr : List Tk) (x : Tk) (ms : List Tk) (h : t.length + b.length + 1 ≤ 16384) (hT : readL (t ++ [10]) = .ok (fr ++ [x])) (hM : readL (t ++ 10 :: b) = .ok (fr ++ ms)) (hm : 0 < ms.length) (hfr : fr.length ≤ 16384) (hml : ms.length ≤ 20000) :
    Calls Try.prog 5 #[.string (bt t), .string (bt b)] w fun e w' => e = .returned (.bool true) ∧ Below w.heap.size w w' := by
  have HT := Lib.hid hT
  have HM := Lib.hid hM
  clear hT hM
  go_enter Try.func5, Try.ntmps5
  go_wp2_with fail
  refine (read_ok HT.out (by simp [maxLen]; omega)).mono ?_
  rintro e w1 ⟨v, rfl, ho1, hb1⟩
  obtain ⟨g1, cap1, rfl, hg1, hl1, hc1, ht1⟩ := toks_form ho1 (by simp)
  have HB1 := Lib.hid hb1
  clear hb1 ho1
  unfold diagV
  go_wp2_with fail
  refine (read_ok HM.out (by simp [maxLen]; omega)).mono ?_
  rintro e w2 ⟨v, rfl, ho2, hb2⟩
  obtain ⟨g2, cap2, rfl, hg2, hl2, hc2, ht2⟩ := toks_form ho2 (by simp; omega)
  have y1 : w1.heap.size < w2.heap.size := by have := hb2.size; simp at this; omega
  obtain ⟨p0, p1, p2, p3⟩ := (diagAt_new w1 0 0 0).below hb2 (by simp)
  have T1 : TokAt w2 g1 (fr ++ [x]) := (ht1.below (below_alloc w1 _) hl1).below hb2 (by simp; omega)
  have HT1 := Lib.hid T1
  have HT2 := Lib.hid ht2
  have HB2 := Lib.hid hb2
  clear hb2 T1 ht1 ht2 ho2
  unfold diagV
  simp only [List.length_append, List.length_cons, List.length_nil, Nat.zero_add] at hc1 hc2 ⊢
  go_wp2
  go_loopw [9] (fun i wr => FirstRel w g1 g2 fr x ms i wr) (fun i _ => fr.length - (intOf i).toNat)
  case atStart =>
    have hz := HB1.out.size
    exact ⟨0, Nat.zero_le _, rfl, HT1.out.below (below_alloc w2 _) (by omega), HT2.out.below (below_alloc w2 _) hl2, (HB1.out.trans ((below_via HB2.out).mono hz)).alloc (by omega) _⟩
  case round =>
    obtain ⟨k, hk, rfl, ht1, ht2, hbe⟩ := hrel
    have HBe := Lib.hid hbe
    have HT1' := Lib.hid ht1
    have HT2' := Lib.hid ht2
    clear HT1 HT2 HB1 HB2 p0 p1 p2 p3 hbe
    by_cases hlt : k < fr.length
    · obtain ⟨a0, a1, a2, a3, a4⟩ := ht1 k fr[k] (by simp [List.getElem?_append_left hlt])
      obtain ⟨b0, b1, b2, b3, b4⟩ := ht2 k fr[k] (by simp [List.getElem?_append_left hlt])
      clear ht1 ht2
      generalize fr[k] = tk at *
      go_wp2
      go_quiet (fail)
      go_wp2
      go_roundw
      case rel => exact ⟨k + 1, by omega, by go_num, HT1'.out, HT2'.out, ⟨HBe.out.os, HBe.out.tape, HBe.out.output, HBe.out.size, HBe.out.block⟩⟩
      case measure => simp [intOf]; omega
    · clear ht1 ht2
      go_wp2_with fail
      refine (awake_any _).mono ?_
      rintro e w3 ⟨rfl, hb3⟩
      go_wp2
      go_ret
      exact ⟨rfl, HBe.out.trans (hb3.mono HBe.out.size)⟩

theorem lx_err (n : Nat) : ∀ (l : List UInt8) (p : Nat × Nat) (d : Dg), l.length ≤ n → 1 ≤ p.1 → 1 ≤ p.2 → lx l p = .error d → 11 ≤ d.num ∧ d.num ≤ 14 ∧ 1 ≤ d.line ∧ 1 ≤ d.col := by
  induction n with
  | zero =>
    intro l p d hn _ _ h
    have : l = [] := List.eq_nil_of_length_eq_zero (by omega)
    subst this
    rw [lx_end] at h
    cases h
  | succ n ih =>
    intro l p d hn h1 h2 h
    have adv2 : ∀ m : List UInt8, 1 ≤ (advL p m).1 ∧ 1 ≤ (advL p m).2 := fun m => by
      rw [advL_eq]
      split <;> simp <;> omega
    cases hg : gapL l with
    | none =>
      rw [lx_none hg] at h
      simp at h
      subst h
      exact ⟨by simp, by simp, h1, h2⟩
    | some g =>
      cases g with
      | zero =>
        cases l with
        | nil => rw [lx_end] at h; cases h
        | cons c r =>
          by_cases he : (tokG (c :: r)).err = 0
          · have hl := tokG_len c r he
            simp only [List.length_cons] at hn
            rw [lx_tok hg he] at h
            cases hx : lx ((c :: r).drop (tokG (c :: r)).len) (advL p ((c :: r).take (tokG (c :: r)).len)) with
            | error d' =>
              rw [hx] at h
              simp [Except.map] at h
              subst h
              exact ih _ _ _ (by simp; omega) (adv2 _).1 (adv2 _).2 hx
            | ok ts => rw [hx] at h; simp [Except.map] at h
          · rw [lx_bad hg he] at h
            simp at h
            subst h
            have := err_of c r
            simp only
            omega
      | succ g =>
        have := gap_le l _ hg
        rw [lx_gap hg] at h
        exact ih _ _ _ (by simp; omega) (adv2 _).1 (adv2 _).2 h

theorem lx_count (n : Nat) : ∀ (l : List UInt8) (p : Nat × Nat) (ts : List Tk), l.length ≤ n → lx l p = .ok ts → ts.length ≤ l.length + 1 := by
  induction n with
  | zero =>
    intro l p ts hn h
    have : l = [] := List.eq_nil_of_length_eq_zero (by omega)
    subst this
    rw [lx_end] at h
    simp at h
    subst h
    simp
  | succ n ih =>
    intro l p ts hn h
    cases hg : gapL l with
    | none => rw [lx_none hg] at h; cases h
    | some g =>
      cases g with
      | zero =>
        cases l with
        | nil => rw [lx_end] at h; simp at h; subst h; simp
        | cons c r =>
          by_cases he : (tokG (c :: r)).err = 0
          · have hl := tokG_len c r he
            simp only [List.length_cons] at hn
            rw [lx_tok hg he] at h
            cases hx : lx ((c :: r).drop (tokG (c :: r)).len) (advL p ((c :: r).take (tokG (c :: r)).len)) with
            | error d' => rw [hx] at h; simp [Except.map] at h
            | ok us =>
              rw [hx] at h
              simp [Except.map] at h
              subst h
              have := ih _ _ _ (by simp; omega) hx
              simp at this ⊢
              omega
          · rw [lx_bad hg he] at h; cases h
      | succ g =>
        have := gap_le l _ hg
        rw [lx_gap hg] at h
        have := ih _ _ _ (by simp; omega) h
        simp at this
        omega

theorem first_any (t b : List UInt8) (w : World) (h1 : t.length ≤ 140737488355328) (h2 : b.length ≤ 140737488355328) :
    Calls Try.prog 5 #[.string (bt t), .string (bt b)] w fun e w' => e = .returned (.bool true) ∧ Below w.heap.size w w' := by
  by_cases h : 16384 < t.length + b.length + 1
  · exact first_long t b w h1 h2 h
  have h' : t.length + b.length + 1 ≤ 16384 := by omega
  have rT : readL (t ++ [10]) = lx (t ++ [10]) (1, 1) := readL_lx (by simp; omega)
  have rM : readL (t ++ 10 :: b) = lx (t ++ 10 :: b) (1, 1) := readL_lx (by simp; omega)
  have j0 := lx_join [] t.length t (1, 1) (Nat.le_refl _)
  have j1 := lx_join b t.length t (1, 1) (Nat.le_refl _)
  cases hx : lx t (1, 1) with
  | error d =>
    rw [hx] at j0 j1
    have he := lx_err _ _ _ _ (Nat.le_refl _) (by simp) (by simp) hx
    by_cases h14 : d.num = 14
    · exact first_comment t b w d h' (by rw [rT]; exact j0.2 h14) h14
    · exact first_err t b w d h' (by rw [rT]; exact j0.1 h14) (by rw [rM]; exact j1.1 h14) (by omega) h14
  | ok ts =>
    rw [hx] at j0 j1
    obtain ⟨fr, e0, k0⟩ := j0
    obtain ⟨fr', e1, k1⟩ := j1
    have : fr' = fr := by
      have := e0.symm.trans e1
      exact (List.append_inj_left' this rfl).symm
    subst this
    rw [lx_nl, lx_end] at k0
    have hcnt := lx_count _ _ _ _ (Nat.le_refl _) hx
    rw [e0] at hcnt
    simp at hcnt
    cases hy : lx (10 :: b) (advL (1, 1) t) with
    | error d =>
      rw [hy] at k1
      have he := lx_err _ _ _ _ (Nat.le_refl _) (by rw [advL_eq]; split <;> simp) (by rw [advL_eq]; split <;> simp) hy
      exact first_okerr t b w _ d h' (by rw [rT, k0]; rfl) (by rw [rM, k1]; rfl) (by omega)
    | ok ms =>
      rw [hy] at k1
      obtain ⟨f2, e2⟩ := lx_ne _ _ _ _ (Nat.le_refl _) hy
      have hc2 := lx_count _ _ _ _ (Nat.le_refl _) hy
      simp at hc2
      exact first_ok t b w fr' _ ms h' (by rw [rT, k0]; rfl) (by rw [rM, k1]; rfl) (by rw [e2]; simp) (by omega) (by omega)
end Go.Proofs.Ytjnkjciglkfbaaa
