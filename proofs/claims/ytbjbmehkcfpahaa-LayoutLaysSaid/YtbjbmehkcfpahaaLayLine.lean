/- The contract of the object's line: what a token that is first on its line ends. No condition but bounds on what is open and laid. -/
import Derived.Test.YtbjbmehkcfpahaaLayBegin
namespace Go.Proofs.Ytbjbmehkcfpahaa
open Go.RowKit Lx
attribute [local go_sem] bt_size bt_get bt_list bt_toList bt_drop bt_take fld0 fld1 fld2
attribute [local go_sem ↓] Go.wp_at_zero Go.wp_at_succ

/-- What line leaves: the stack and what is laid; or false. -/
def LinePost (s : St) (w : World) (out : List Rt) (x : Option (List En × List Rt)) (e : Ending) (w' : World) : Prop :=
  match x with
  | none => e = .returned (.bool false) ∧ ∃ s' rs' out', LayAt w' s' rs' out' ∧ Step s s' w w'
  | some (r, o) => e = .returned (.bool true) ∧ ∃ s', LayAt w' s' r (out ++ o) ∧ Step s s' w w'

def putO (o : List Rt) : Option (List En × List Rt) → Option (List En × List Rt)
  | none => none
  | some (r, p) => some (r, o ++ p)

/-- At the head of each round. -/
def LineRel (s : St) (w : World) (b : Nat) (t : Rt) (col : Int) (rs : List En) (out : List Rt) (k : Nat) (wr : World) : Prop :=
  ∃ (s1 : St) (r1 : List En) (o1 : List Rt), LayAt wr s1 r1 (out ++ o1) ∧ Step s s1 w wr ∧ BX s1 wr b t ∧ r1.length < k ∧ r1.length + (out ++ o1).length ≤ 9000000 ∧ lnL t col (rs.length + 1) rs = putO o1 (lnL t col k r1)

theorem ln_none {t : Rt} {col : Int} {k : Nat} {rs : List En} (h : curC rs = none) : lnL t col (k + 1) rs = some (rs, []) := by rw [lnL, h]
theorem ln_stay {t : Rt} {col c : Int} {k : Nat} {rs : List En} (h : curC rs = some c) (hc : c < col ∨ (col = c ∧ cloB t = true)) : lnL t col (k + 1) rs = some (rs, []) := by
  rw [lnL, h]
  simp only
  rw [if_pos (by rcases hc with hc | ⟨rfl, hc⟩ <;> simp [hc])]
theorem ln_bad {t : Rt} {col c : Int} {k : Nat} {rs : List En} (h : curC rs = some c) (h1 : ¬ c < col) (h2 : col = c → cloB t = false) (hl : curL rs = false) : lnL t col (k + 1) rs = none := by
  rw [lnL, h]
  simp only
  rw [if_neg (by simp only [Bool.or_eq_true, decide_eq_true_eq, Bool.and_eq_true, beq_iff_eq, not_or]; exact ⟨h1, fun ⟨a, b⟩ => by rw [h2 a] at b; cases b⟩), if_neg (by rw [hl]; exact Bool.false_ne_true)]
theorem ln_semi {t : Rt} {col : Int} {k : Nat} {rs : List En} (h : curC rs = some col) (h2 : cloB t = false) (hl : curL rs = true) : lnL t col (k + 1) rs = some (.blk col :: curR rs, [insT [59] t]) := by
  rw [lnL, h]
  simp only
  rw [if_neg (by simp [h2]), if_pos hl, if_pos (by simp)]
theorem ln_left {t : Rt} {col c : Int} {k : Nat} {rs : List En} (h : curC rs = some c) (h1 : col < c) (hl : curL rs = true) (o1 : List Rt) : putO o1 (lnL t col (k + 1) rs) = putO (o1 ++ [insT [125] t]) (lnL t col k (curR rs)) := by
  rw [lnL, h]
  simp only
  rw [if_neg (by simp only [Bool.or_eq_true, decide_eq_true_eq, Bool.and_eq_true, beq_iff_eq, not_or]; exact ⟨by omega, fun ⟨a, _⟩ => by omega⟩), if_pos hl, if_neg (by simp only [beq_iff_eq]; omega)]
  cases lnL t col k (curR rs) with
  | none => rfl
  | some x => simp [putO]

theorem above_cells {w : World} {s : St} {ab r : List En} {e : En} {out : List Rt} {q cap : Nat} (h : LayAt w s (ab ++ e :: r) out) (hv : s.ve = .slice (some ⟨q, 0, none⟩) (ab.length + r.length + 1) cap) :
    ∀ k (hk : k < ab.reverse.length), EnAt w q ((r.length + 1) * 3 + k * 3) ab.reverse[k] := by
  intro k hk
  have hk' : k < ab.length := by simpa using hk
  have hi : ab.length - 1 - k < ab.length := by omega
  have hsp : ab ++ e :: r = ab.take (ab.length - 1 - k) ++ ab[ab.length - 1 - k] :: (ab.drop (ab.length - 1 - k + 1) ++ e :: r) := by
    rw [← List.cons_append, ← List.append_assoc, List.getElem_cons_drop, List.take_append_drop]
  have hlen : (ab.drop (ab.length - 1 - k + 1) ++ e :: r).length = r.length + 1 + k := by simp; omega
  have hr := h.en
  have hl : (ab ++ e :: r).length = ab.length + r.length + 1 := by simp; omega
  rw [hl, hv] at hr
  have key : ∀ j, j < 3 → w.cell? ⟨q, (r.length + 1 + k) * 3 + j, none⟩ = (enCells ab[ab.length - 1 - k])[j]? := fun j hj => by
    rw [hr.cellAt ((r.length + 1 + k) * 3 + j) (by omega)]
    rw [hsp, ← hlen]
    exact ens_at _ _ _ j hj
  have he : ab.reverse[k] = ab[ab.length - 1 - k] := by rw [List.getElem_reverse]
  rw [he, show (r.length + 1) * 3 + k * 3 = (r.length + 1 + k) * 3 from by omega]
  exact ⟨key 0 (by omega), key 1 (by omega), key 2 (by omega)⟩

/-- areLoose of what lies above an entry. -/
theorem loose_sub {w : World} {s : St} {ab r : List En} {e : En} {out : List Rt} {q cap : Nat} (h : LayAt w s (ab ++ e :: r) out) (hv : s.ve = .slice (some ⟨q, 0, none⟩) (ab.length + r.length + 1) cap) (hq : q < w.heap.size) (hn : ab.length ≤ 10000000) (n off cap' : Nat) (hnr : n = r.length) (hoff : ab.length = 0 ∨ off = (n + 1) * 3) :
    Calls Try.prog 90 #[.slice (some ⟨q, off, none⟩) ab.length cap'] w fun x w' => x = .returned (.bool (ab.all En.loose)) ∧ Below w.heap.size w w' := by
  by_cases h0 : ab.length = 0
  · have hab : ab = [] := List.eq_nil_of_length_eq_zero h0
    rw [h0, hab]
    exact (areLoose_nil _ _ w).mono fun x w' ⟨a, b⟩ => ⟨a, b ▸ Below.refl _ _⟩
  · obtain rfl : off = (n + 1) * 3 := by rcases hoff with hx | hx; exact absurd hx h0; exact hx
    subst hnr
    have := areLoose_any ab.reverse q ((r.length + 1) * 3) cap' w (by simpa using hn) hq (above_cells h hv)
    rw [List.length_reverse, List.all_reverse] at this
    exact this

set_option maxHeartbeats 4000000 in
set_option maxRecDepth 100000 in
theorem line_any (w : World) (s : St) (rs : List En) (out : List Rt) (t : Rt) (col : Int) (h : LayAt w s rs out) (hn : rs.length + out.length ≤ 9000000) :
    Calls Try.prog 60 #[.pointer (some ⟨s.g, 0, none⟩), tokV t, .int .i64 col] w fun e w' => LinePost s w out (lnL t col (rs.length + 1) rs) e w' := by
  have HL0 := Lib.hid (h.below (below_alloc w (boxT t)))
  have HS0 := Lib.hid (Step.of_below s (below_alloc w (boxT t)))
  have HX0 := Lib.hid (BX.new h t)
  clear h
  unfold tokV
  go_enter Try.func60, Try.ntmps60
  go_wp2
  go_loopg [] (rs.length + 1) (fun k wr => LineRel s w w.heap.size t col rs out k wr)
  case atStart => exact ⟨s, rs, [], by rw [List.append_nil]; exact HL0.out, HS0.out, HX0.out, Nat.lt_succ_self _, by simpa using hn, by cases lnL t col (rs.length + 1) rs <;> rfl⟩
  case round =>
    obtain ⟨s1, r1, o1, hl, hs, hx, hk, hbd, heq⟩ := hrel
    obtain ⟨k, rfl⟩ : ∃ k, gk = k + 1 := ⟨gk - 1, by omega⟩
    have HL := Lib.hid hl
    have HS := Lib.hid hs
    have HX := Lib.hid hx
    have HE := Lib.hid heq
    have hg := hs.g
    have hgl := hl.g_lt
    rw [hg] at hgl
    have HG := Lib.hid hg
    clear hl hs hx heq hg
    cases hc : curC r1 with
    | none =>
      have hb := cur_none r1 hc
      have HN := Lib.hid (ln_none (t := t) (col := col) (k := k) hc)
      clear hc
      go_wp2_with fail
      refine (reach_g wr s1 r1 _ s.g HG.out HL.out (by omega)).mono ?_
      rintro e w2 ⟨rfl, hb2⟩
      have HL2 := Lib.hid (HL.out.below hb2)
      have HS2 := Lib.hid (HS.out.trans (.of_below s1 hb2))
      clear hb2
      unfold rcV
      rw [hb]
      clear hb
      go_wp2
      go_ret
      unfold LinePost
      rw [HE.out, HN.out]
      exact ⟨rfl, s1, by simpa using HL2.out, HS2.out⟩
    | some c =>
      obtain ⟨ab, h1, h2, h3, h4⟩ := cur_split r1 c hc
      have HC := Lib.hid hc
      have HLs := HL.out
      rw [h1] at HLs
      obtain ⟨q, cap, hv, hcap, hm, hq, k0, k1, k2⟩ := entry_cells HLs
      have c0 := HL.out.cells.1
      rw [hv, HG.out] at c0
      have hl1 : (curR r1).length + ab.length ≤ 9000000 := by have := congrArg List.length h1; simp at this; omega
      have H1 := Lib.hid h1
      have H2 := Lib.hid h2
      have H3 := Lib.hid h3
      have HV := Lib.hid hv
      clear hc h1 h2 h3 h4 hv HLs
      unfold enC at k1
      obtain ⟨n, hn'⟩ : ∃ n, n = (curR r1).length := ⟨_, rfl⟩
      have hr1 : r1.length = ab.length + n + 1 := by have := congrArg List.length H1.out; simp at this; omega
      rw [← hn'] at c0 hl1 k0 k1 k2 hcap
      have H2 := Lib.hid (show rcB r1 = (n : Int) by rw [H2.out, hn'])
      have HN' := Lib.hid hn'
      have HR1 := Lib.hid hr1
      have hkn : n < k := by omega
      have hobd : (out ++ o1).length + n + ab.length + 1 ≤ 9000000 := by omega
      clear hn' hr1
      by_cases hA : c < col
      · have HN := Lib.hid (ln_stay (t := t) (k := k) HC.out (.inl hA))
        go_wp2_with fail
        refine (reach_g wr s1 r1 _ s.g HG.out HL.out (by omega)).mono ?_
        rintro e w2 ⟨rfl, hb2⟩
        have HL2 := Lib.hid (HL.out.below hb2)
        have HS2 := Lib.hid (HS.out.trans (.of_below s1 hb2))
        have HX2 := Lib.hid (HX.out.below hb2)
        have d0 := (hb2.cell (p := ⟨s.g, 0, none⟩) hgl).trans c0
        have d1 := (hb2.cell (p := ⟨q, n * 3 + 1, none⟩) hq).trans k1
        have hg2 : s.g < w2.heap.size := Nat.lt_of_lt_of_le hgl hb2.size
        have hq2 : q < w2.heap.size := Nat.lt_of_lt_of_le hq hb2.size
        clear hb2 c0 k0 k1 k2 hgl hq
        unfold rcV
        rw [H2.out]
        go_wp2
        go_ret
        unfold LinePost
        rw [HE.out, HN.out]
        exact ⟨rfl, s1, by simpa using HL2.out, HS2.out⟩
      · by_cases hEq : col = c
        · subst hEq
          clear hA
          cases hclo : cloB t with
          | true =>
            have HN := Lib.hid (ln_stay (k := k) HC.out (.inr ⟨rfl, hclo⟩))
            go_wp2_with fail
            refine (reach_g wr s1 r1 _ s.g HG.out HL.out (by omega)).mono ?_
            rintro e w2 ⟨rfl, hb2⟩
            have HL2 := Lib.hid (HL.out.below hb2)
            have HS2 := Lib.hid (HS.out.trans (.of_below s1 hb2))
            have HX2 := Lib.hid (HX.out.below hb2)
            have d0 := (hb2.cell (p := ⟨s.g, 0, none⟩) hgl).trans c0
            have d1 := (hb2.cell (p := ⟨q, n * 3 + 1, none⟩) hq).trans k1
            have hg2 : s.g < w2.heap.size := Nat.lt_of_lt_of_le hgl hb2.size
            have hq2 : q < w2.heap.size := Nat.lt_of_lt_of_le hq hb2.size
            clear hb2 c0 k0 k1 k2 hgl hq
            unfold rcV
            rw [H2.out]
            obtain ⟨x0, x1, x2, x3, x4⟩ := HX2.out.at_
            go_wp2_with fail
            refine (isCloser_any t _).mono ?_
            rintro e w3 ⟨rfl, hb3⟩
            rw [hclo]
            have HL3 := Lib.hid (HL2.out.below hb3)
            have HS3 := Lib.hid (HS2.out.trans (.of_below s1 hb3))
            have HX3 := Lib.hid (HX2.out.below hb3)
            have e0 := (hb3.cell (p := ⟨s.g, 0, none⟩) hg2).trans d0
            have hg3 : s.g < w3.heap.size := Nat.lt_of_lt_of_le hg2 hb3.size
            have hq3 : q < w3.heap.size := Nat.lt_of_lt_of_le hq2 hb3.size
            clear hb3 d0 d1 x0 x1 x2 x3 x4 hg2 hq2 HL2 HS2 HX2
            go_wp2
            go_ret
            unfold LinePost
            rw [HE.out, HN.out]
            exact ⟨rfl, s1, by simpa using HL3.out, HS3.out⟩
          | false =>
            cases hlo : curL r1 with
            | false =>
              have HN := Lib.hid (ln_bad (k := k) HC.out (Int.lt_irrefl _) (fun _ => hclo) hlo)
              go_wp2_with fail
              refine (reach_g wr s1 r1 _ s.g HG.out HL.out (by omega)).mono ?_
              rintro e w2 ⟨rfl, hb2⟩
              have HL2 := Lib.hid (HL.out.below hb2)
              have HS2 := Lib.hid (HS.out.trans (.of_below s1 hb2))
              have HX2 := Lib.hid (HX.out.below hb2)
              have d0 := (hb2.cell (p := ⟨s.g, 0, none⟩) hgl).trans c0
              have d1 := (hb2.cell (p := ⟨q, n * 3 + 1, none⟩) hq).trans k1
              have hg2 : s.g < w2.heap.size := Nat.lt_of_lt_of_le hgl hb2.size
              have hq2 : q < w2.heap.size := Nat.lt_of_lt_of_le hq hb2.size
              clear hb2 c0 k0 k1 k2 hgl hq
              unfold rcV
              rw [H2.out]
              obtain ⟨x0, x1, x2, x3, x4⟩ := HX2.out.at_
              go_wp2_with fail
              refine (isCloser_any t _).mono ?_
              rintro e w3 ⟨rfl, hb3⟩
              rw [hclo]
              have HL3 := Lib.hid (HL2.out.below hb3)
              have HS3 := Lib.hid (HS2.out.trans (.of_below s1 hb3))
              have HX3 := Lib.hid (HX2.out.below hb3)
              have e0 := (hb3.cell (p := ⟨s.g, 0, none⟩) hg2).trans d0
              have hg3 : s.g < w3.heap.size := Nat.lt_of_lt_of_le hg2 hb3.size
              have hq3 : q < w3.heap.size := Nat.lt_of_lt_of_le hq2 hb3.size
              clear hb3 d0 d1 x0 x1 x2 x3 x4 hg2 hq2 HL2 HS2 HX2
              clear hclo
              go_wp2_with fail
              all_goals
                refine (loose_sub (by rw [← H1.out]; exact HL3.out) (by rw [HV.out]) hq3 (by omega) n _ _ HN'.out (by first | exact .inr rfl | (left; omega))).mono ?_
                rintro e w4 ⟨rfl, hb4⟩
                rw [H3.out]
                have HL4 := Lib.hid (HL3.out.below hb4)
                have HS4 := Lib.hid (HS3.out.trans (.of_below s1 hb4))
                have HX4 := Lib.hid (HX3.out.below hb4)
                clear hb4 e0
                rw [hlo]
                go_wp2
                go_ret
                unfold LinePost
                rw [HE.out, HN.out]
                exact ⟨rfl, s1, _, _, HL4.out, HS4.out⟩
            | true =>
              have HN := Lib.hid (ln_semi (k := k) HC.out hclo hlo)
              go_wp2_with fail
              refine (reach_g wr s1 r1 _ s.g HG.out HL.out (by omega)).mono ?_
              rintro e w2 ⟨rfl, hb2⟩
              have HL2 := Lib.hid (HL.out.below hb2)
              have HS2 := Lib.hid (HS.out.trans (.of_below s1 hb2))
              have HX2 := Lib.hid (HX.out.below hb2)
              have d0 := (hb2.cell (p := ⟨s.g, 0, none⟩) hgl).trans c0
              have d1 := (hb2.cell (p := ⟨q, n * 3 + 1, none⟩) hq).trans k1
              have hg2 : s.g < w2.heap.size := Nat.lt_of_lt_of_le hgl hb2.size
              have hq2 : q < w2.heap.size := Nat.lt_of_lt_of_le hq hb2.size
              clear hb2 c0 k0 k1 k2 hgl hq
              unfold rcV
              rw [H2.out]
              obtain ⟨x0, x1, x2, x3, x4⟩ := HX2.out.at_
              go_wp2_with fail
              refine (isCloser_any t _).mono ?_
              rintro e w3 ⟨rfl, hb3⟩
              rw [hclo]
              have HL3 := Lib.hid (HL2.out.below hb3)
              have HS3 := Lib.hid (HS2.out.trans (.of_below s1 hb3))
              have HX3 := Lib.hid (HX2.out.below hb3)
              have e0 := (hb3.cell (p := ⟨s.g, 0, none⟩) hg2).trans d0
              have hg3 : s.g < w3.heap.size := Nat.lt_of_lt_of_le hg2 hb3.size
              have hq3 : q < w3.heap.size := Nat.lt_of_lt_of_le hq2 hb3.size
              clear hb3 d0 d1 x0 x1 x2 x3 x4 hg2 hq2 HL2 HS2 HX2
              clear hclo
              go_wp2_with fail
              all_goals
                refine (loose_sub (by rw [← H1.out]; exact HL3.out) (by rw [HV.out]) hq3 (by omega) n _ _ HN'.out (by first | exact .inr rfl | (left; omega))).mono ?_
                rintro e w4 ⟨rfl, hb4⟩
                rw [H3.out]
                have HL4 := Lib.hid (HL3.out.below hb4)
                have HS4 := Lib.hid (HS3.out.trans (.of_below s1 hb4))
                have HX4 := Lib.hid (HX3.out.below hb4)
                clear hb4 e0
                rw [hlo]
                go_wp2_with fail
                rw [show ((n : Int) + 1) = (((En.blk col :: curR r1).length : Nat) : Int) from by rw [List.length_cons, ← HN'.out]; omega]
                refine (cut_g w4 s1 ab (.blk col :: curR r1) _ s.g HG.out (by rw [← H1.out]; exact HL4.out) (by simp; omega) (by simp; rw [← HN'.out]; omega)).mono ?_
                rintro e w5 ⟨rfl, s5, hl5, hs5⟩
                have HL5 := Lib.hid hl5
                have HS5 := Lib.hid (HS4.out.trans hs5)
                have HX5 := Lib.hid (HX4.out.step hs5)
                clear hl5 hs5
                obtain ⟨x0, x1, x2, x3, x4⟩ := HX5.out.at_
                go_wp2_with fail
                refine (insert_g w5 s5 _ _ [59] t s.g HS5.out.g HL5.out (by omega)).mono ?_
                rintro e w6 ⟨rfl, s6, hl6, hs6⟩
                have HL6 := Lib.hid hl6
                have HS6 := Lib.hid (HS5.out.trans hs6)
                clear hl6 hs6 x0 x1 x2 x3 x4
                go_wp2
                go_ret
                unfold LinePost
                rw [HE.out, HN.out]
                exact ⟨rfl, s6, by have := HL6.out; rw [List.append_assoc] at this; exact this, HS6.out⟩
        · have hL : col < c := by omega
          have hne : (col == c) = false := by simp only [beq_eq_false_iff_ne]; omega
          cases hlo : curL r1 with
          | false =>
            have HN := Lib.hid (ln_bad (t := t) (k := k) HC.out hA (fun e => absurd e hEq) hlo)
            clear hEq
            go_wp2_with fail
            refine (reach_g wr s1 r1 _ s.g HG.out HL.out (by omega)).mono ?_
            rintro e w2 ⟨rfl, hb2⟩
            have HL2 := Lib.hid (HL.out.below hb2)
            have HS2 := Lib.hid (HS.out.trans (.of_below s1 hb2))
            have HX2 := Lib.hid (HX.out.below hb2)
            have d0 := (hb2.cell (p := ⟨s.g, 0, none⟩) hgl).trans c0
            have d1 := (hb2.cell (p := ⟨q, n * 3 + 1, none⟩) hq).trans k1
            have hg2 : s.g < w2.heap.size := Nat.lt_of_lt_of_le hgl hb2.size
            have hq2 : q < w2.heap.size := Nat.lt_of_lt_of_le hq hb2.size
            clear hb2 c0 k0 k1 k2 hgl hq
            unfold rcV
            rw [H2.out]
            obtain ⟨w3, rfl⟩ : ∃ w3, w3 = w2 := ⟨_, rfl⟩
            have HL3 := HL2
            have HS3 := HS2
            have HX3 := HX2
            have e0 := d0
            have hg3 := hg2
            have hq3 := hq2
            clear d0 hg2 hq2 HL2 HS2 HX2
            go_wp2_with fail
            all_goals
              refine (loose_sub (by rw [← H1.out]; exact HL3.out) (by rw [HV.out]) hq3 (by omega) n _ _ HN'.out (by first | exact .inr rfl | (left; omega))).mono ?_
              rintro e w4 ⟨rfl, hb4⟩
              rw [H3.out]
              have HL4 := Lib.hid (HL3.out.below hb4)
              have HS4 := Lib.hid (HS3.out.trans (.of_below s1 hb4))
              have HX4 := Lib.hid (HX3.out.below hb4)
              clear hb4 e0
              rw [hlo]
              go_wp2
              go_ret
              unfold LinePost
              rw [HE.out, HN.out]
              exact ⟨rfl, s1, _, _, HL4.out, HS4.out⟩
          | true =>
            have HLo := Lib.hid hlo
            clear hEq
            go_wp2_with fail
            refine (reach_g wr s1 r1 _ s.g HG.out HL.out (by omega)).mono ?_
            rintro e w2 ⟨rfl, hb2⟩
            have HL2 := Lib.hid (HL.out.below hb2)
            have HS2 := Lib.hid (HS.out.trans (.of_below s1 hb2))
            have HX2 := Lib.hid (HX.out.below hb2)
            have d0 := (hb2.cell (p := ⟨s.g, 0, none⟩) hgl).trans c0
            have d1 := (hb2.cell (p := ⟨q, n * 3 + 1, none⟩) hq).trans k1
            have hg2 : s.g < w2.heap.size := Nat.lt_of_lt_of_le hgl hb2.size
            have hq2 : q < w2.heap.size := Nat.lt_of_lt_of_le hq hb2.size
            clear hb2 c0 k0 k1 k2 hgl hq
            unfold rcV
            rw [H2.out]
            obtain ⟨w3, rfl⟩ : ∃ w3, w3 = w2 := ⟨_, rfl⟩
            have HL3 := HL2
            have HS3 := HS2
            have HX3 := HX2
            have e0 := d0
            have hg3 := hg2
            have hq3 := hq2
            clear d0 hg2 hq2 HL2 HS2 HX2
            go_wp2_with fail
            all_goals
              refine (loose_sub (by rw [← H1.out]; exact HL3.out) (by rw [HV.out]) hq3 (by omega) n _ _ HN'.out (by first | exact .inr rfl | (left; omega))).mono ?_
              rintro e w4 ⟨rfl, hb4⟩
              rw [H3.out]
              have HL4 := Lib.hid (HL3.out.below hb4)
              have HS4 := Lib.hid (HS3.out.trans (.of_below s1 hb4))
              have HX4 := Lib.hid (HX3.out.below hb4)
              clear hb4 e0
              rw [hlo]
              go_wp2_with fail
              rw [show (n : Int) = (((curR r1).length : Nat) : Int) from by rw [← HN'.out]]
              refine (cut_g w4 s1 (ab ++ [.blk c]) (curR r1) _ s.g HG.out (by have := HL4.out; rw [H1.out] at this; simpa using this) (by simp; omega) (by simp; rw [← HN'.out]; omega)).mono ?_
              rintro e w5 ⟨rfl, s5, hl5, hs5⟩
              have HL5 := Lib.hid hl5
              have HS5 := Lib.hid (HS4.out.trans hs5)
              have HX5 := Lib.hid (HX4.out.step hs5)
              clear hl5 hs5
              obtain ⟨x0, x1, x2, x3, x4⟩ := HX5.out.at_
              go_wp2_with fail
              refine (insert_g w5 s5 _ _ [125] t s.g HS5.out.g HL5.out (by omega)).mono ?_
              rintro e w6 ⟨rfl, s6, hl6, hs6⟩
              have HL6 := Lib.hid hl6
              have HS6 := Lib.hid (HS5.out.trans hs6)
              have HX6 := Lib.hid (HX5.out.step hs6)
              clear hl6 hs6 x0 x1 x2 x3 x4
              go_wp2
              go_roundg k
              case measure => omega
              case rel => exact ⟨s6, curR r1, o1 ++ [insT [125] t], by have := HL6.out; rw [List.append_assoc] at this; exact this, HS6.out, HX6.out, by rw [← HN'.out]; omega, by have := hobd; simp at this ⊢; rw [← HN'.out]; omega, by rw [HE.out]; exact ln_left HC.out hL HLo.out o1⟩
end Go.Proofs.Ytbjbmehkcfpahaa
