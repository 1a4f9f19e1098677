/- The walk of the law LexReads: for any text both lexers answer the same, and the law answers true and leaves what was there. No condition but that the text is no longer than 2^47 bytes. -/
import Derived.Test.YtbjbmehkcfpahaaRefRead
namespace Go.Proofs.Ytbjbmehkcfpahaa
open Go.RowKit Lx
attribute [local go_sem] bt_size bt_get bt_list bt_toList bt_drop bt_take

def DrewPost (w : World) (e : Ending) (w' : World) : Prop := e = .returned (.bool true) ∧ ∃ m, w' = w.drewN m

set_option maxHeartbeats 400000 in
set_option maxRecDepth 100000 in
theorem same_nil (w : World) : Calls Try.prog 10 #[.slice none 0 0, .slice none 0 0] w fun e w' => e = .returned (.bool true) ∧ w = w' := by
  go_enter Try.func10, Try.ntmps10
  go_wp2
  refine wp_loop_rounds 1 ?_
  rw [rounds_succ]
  go_wp2
  go_ret
  exact ⟨rfl, rfl⟩

set_option maxHeartbeats 800000 in
set_option maxRecDepth 100000 in
theorem same_any (w : World) (g1 g2 cap1 cap2 : Nat) (ts : List Tk) (h1 : TokAt w g1 ts) (h2 : TokAt w g2 ts) (_hc1 : ts.length ≤ cap1) (_hc2 : ts.length ≤ cap2) (hl : ts.length ≤ 20000) :
    Calls Try.prog 10 #[.slice (some ⟨g1, 0, none⟩) ts.length cap1, .slice (some ⟨g2, 0, none⟩) ts.length cap2] w fun e w' => DrewPost w e w' := by
  have H1 := Lib.hid h1
  have H2 := Lib.hid h2
  clear h1 h2
  go_enter Try.func10, Try.ntmps10
  go_wp2
  go_loopw [5] (fun i wr => ∃ k m : Nat, k ≤ ts.length ∧ i = .int .i64 k ∧ wr = w.drewN m) (fun i _ => ts.length - (intOf i).toNat)
  case atStart => exact ⟨0, 0, Nat.zero_le _, rfl, rfl⟩
  case round =>
    obtain ⟨k, m, hk, rfl, rfl⟩ := hrel
    by_cases hlt : k < ts.length
    · obtain ⟨a0, a1, a2, a3, a4⟩ := H1.out k ts[k] (by simp [hlt])
      obtain ⟨b0, b1, b2, b3, b4⟩ := H2.out k ts[k] (by simp [hlt])
      generalize ts[k] = tk at *
      go_wp2
      go_quiet (fail)
      go_wp2
      go_roundw
      case rel => exact ⟨k + 1, _, by omega, by go_num, rfl⟩
      case measure => simp [intOf]; omega
    · go_wp2
      go_ret
      exact ⟨rfl, _, rfl⟩

theorem ref_ok {l : List UInt8} {ts : List Tk} {w : World} (h : readL l = .ok ts) (hs : l.length ≤ maxLen) :
    Calls Try.prog 9 #[.string (bt l)] w fun e w' => ∃ v, e = .returned (.tuple #[v, diagV 0 0 0]) ∧ w'.ownsRow w.heap.size 33 5 v ts.length (toksCells ts) ∧ Below w.heap.size w w' :=
  (refRead_any l w hs).mono fun e w' hp => by
    unfold ReadPost at hp
    rw [h] at hp
    exact hp

theorem ref_err {l : List UInt8} {d : Dg} {w : World} (h : readL l = .error d) (hs : l.length ≤ maxLen) :
    Calls Try.prog 9 #[.string (bt l)] w fun e w' => e = .returned (.tuple #[.slice none 0 0, diagV d.line d.col d.num]) ∧ Below w.heap.size w w' :=
  (refRead_any l w hs).mono fun e w' hp => by
    unfold ReadPost at hp
    rw [h] at hp
    exact hp

set_option maxHeartbeats 800000 in
set_option maxRecDepth 100000 in
theorem reads_err (t : List UInt8) (w : World) (h1 : t.length ≤ 140737488355328) (d : Dg) (hT : readL t = .error d) :
    Calls Try.prog 3 #[.string (bt t)] w fun e w' => e = .returned (.bool true) ∧ Below w.heap.size w w' := by
  have HT := Lib.hid hT
  clear hT
  go_enter Try.func3, Try.ntmps3
  go_wp2_with fail
  refine (read_err HT.out (by simp [maxLen]; omega)).mono ?_
  rintro e w1 ⟨rfl, hb1⟩
  have HB1 := Lib.hid hb1
  clear hb1
  unfold diagV
  go_wp2_with fail
  refine (ref_err HT.out (by simp [maxLen]; omega)).mono ?_
  rintro e w2 ⟨rfl, hb2⟩
  have y1 : w1.heap.size < w2.heap.size := by have := hb2.size; simp at this; omega
  obtain ⟨p0, p1, p2, p3⟩ := (diagAt_new w1 d.line d.col d.num).below hb2 (by simp)
  have HB2 := Lib.hid hb2
  clear hb2
  unfold diagV
  go_wp2_with fail
  refine (same_nil _).mono ?_
  rintro e w' ⟨rfl, rfl⟩
  go_wp2_with fail
  refine (awake_any _).mono ?_
  rintro e w3 ⟨rfl, hb3⟩
  go_wp2
  go_ret
  have z1 := HB1.out.size
  have hx := HB1.out.trans ((below_via HB2.out).mono z1)
  exact ⟨rfl, hx.trans ((below_via hb3).mono hx.size)⟩

set_option maxHeartbeats 800000 in
set_option maxRecDepth 100000 in
theorem reads_ok (t : List UInt8) (w : World) (h1 : t.length ≤ 140737488355328) (ts : List Tk) (hT : readL t = .ok ts) (h0 : 0 < ts.length) (hl : ts.length ≤ 20000) :
    Calls Try.prog 3 #[.string (bt t)] w fun e w' => e = .returned (.bool true) ∧ Below w.heap.size w w' := by
  have HT := Lib.hid hT
  clear hT
  go_enter Try.func3, Try.ntmps3
  go_wp2_with fail
  refine (read_ok HT.out (by simp [maxLen]; omega)).mono ?_
  rintro e w1 ⟨v, rfl, ho1, hb1⟩
  obtain ⟨g1, cap1, rfl, hg1, hl1, hc1, ht1⟩ := toks_form ho1 h0
  have HB1 := Lib.hid hb1
  clear hb1 ho1
  unfold diagV
  go_wp2_with fail
  refine (ref_ok HT.out (by simp [maxLen]; omega)).mono ?_
  rintro e w2 ⟨v, rfl, ho2, hb2⟩
  obtain ⟨g2, cap2, rfl, hg2, hl2, hc2, ht2⟩ := toks_form ho2 h0
  have y1 : w1.heap.size < w2.heap.size := by have := hb2.size; simp at this; omega
  obtain ⟨p0, p1, p2, p3⟩ := (diagAt_new w1 0 0 0).below hb2 (by simp)
  have T1 : TokAt w2 g1 ts := (ht1.below (below_alloc w1 _) hl1).below hb2 (by simp; omega)
  have HT1 := Lib.hid T1
  have HT2 := Lib.hid ht2
  have HB2 := Lib.hid hb2
  clear hb2 T1 ht1 ht2 ho2
  unfold diagV
  go_wp2_with fail
  refine (same_any _ g1 g2 cap1 cap2 ts (HT1.out.below (below_alloc w2 _) (by omega)) (HT2.out.below (below_alloc w2 _) hl2) hc1 hc2 hl).mono ?_
  rintro e w' ⟨rfl, m, rfl⟩
  go_wp2_with fail
  refine (awake_any _).mono ?_
  rintro e w3 ⟨rfl, hb3⟩
  go_wp2
  go_ret
  have z1 := HB1.out.size
  have hx := HB1.out.trans ((below_via HB2.out).mono z1)
  have hy := below_drewN' (hx.alloc hx.size (.cells #[.string ⟨#[]⟩, .int .i64 0, .int .i64 0, .int .i64 0] 25)) m
  exact ⟨rfl, hy.trans (hb3.mono hy.size)⟩

theorem lx_count (n : Nat) : ∀ (l : List UInt8) (p : Nat × Nat) (ts : List Tk), l.length ≤ n → lx l p = .ok ts → ts.length ≤ l.length + 1 := by
  induction n with
  | zero =>
    intro l p ts hn h
    have : l = [] := List.eq_nil_of_length_eq_zero (by omega)
    subst this
    rw [lx_end] at h
    simp at h
    subst h
    simp
  | succ n ih =>
    intro l p ts hn h
    cases hg : gapL l with
    | none => rw [lx_none hg] at h; cases h
    | some g =>
      cases g with
      | zero =>
        cases l with
        | nil => rw [lx_end] at h; simp at h; subst h; simp
        | cons c r =>
          by_cases he : (tokG (c :: r)).err = 0
          · have hl := tokG_len c r he
            simp only [List.length_cons] at hn
            rw [lx_tok hg he] at h
            cases hx : lx ((c :: r).drop (tokG (c :: r)).len) (advL p ((c :: r).take (tokG (c :: r)).len)) with
            | error d' => rw [hx] at h; simp [Except.map] at h
            | ok us =>
              rw [hx] at h
              simp [Except.map] at h
              subst h
              have := ih _ _ _ (by simp; omega) hx
              simp at this ⊢
              omega
          · rw [lx_bad hg he] at h; cases h
      | succ g =>
        have := gap_le l _ hg
        rw [lx_gap hg] at h
        have := ih _ _ _ (by simp; omega) h
        simp at this
        omega

theorem reads_any (t : List UInt8) (w : World) (h1 : t.length ≤ 140737488355328) :
    Calls Try.prog 3 #[.string (bt t)] w fun e w' => e = .returned (.bool true) ∧ Below w.heap.size w w' := by
  cases hx : readL t with
  | error d => exact reads_err t w h1 d hx
  | ok ts =>
    by_cases h : 16384 < t.length
    · rw [readL, if_pos h] at hx
      cases hx
    have rT : readL t = lx t (1, 1) := readL_lx (by omega)
    rw [hx] at rT
    obtain ⟨fr, e⟩ := lx_ne _ _ _ _ (Nat.le_refl _) rT.symm
    have hc := lx_count _ _ _ _ (Nat.le_refl _) rT.symm
    exact reads_ok t w h1 ts hx (by rw [e]; simp) (by omega)
end Go.Proofs.Ytbjbmehkcfpahaa
