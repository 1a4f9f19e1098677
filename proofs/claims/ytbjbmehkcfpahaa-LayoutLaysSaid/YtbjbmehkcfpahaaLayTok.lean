/- The contract of the object's token. No condition but bounds on what is open and laid. -/
import Derived.Test.YtbjbmehkcfpahaaLayClose
namespace Go.Proofs.Ytbjbmehkcfpahaa
open Go.RowKit Lx
attribute [local go_sem] bt_size bt_get bt_list bt_toList bt_drop bt_take
attribute [local go_sem ↓] Go.wp_at_zero Go.wp_at_succ

theorem mk_txt {t : Rt} (h : mrkB t = true) : (mkOf t.text).txt = t.text := by
  have h' : t.text = [40] ∨ t.text = [91] ∨ t.text = [123] ∨ t.text = [105, 102] ∨ t.text = [99, 97, 115, 101] ∨ t.text = [108, 101, 116] := by
    simp only [mrkB, signT, wordT, oneB, mrkS, mrkW] at h
    simp at h
    rcases h with ⟨_, h⟩ | ⟨_, h⟩
    · rcases h with h | h | h <;> simp [h]
    · rcases h with h | h | h <;> simp [h]
  rcases h' with h | h | h | h | h | h <;> rw [h] <;> rfl
theorem mark_t (t : Rt) (h : mrkB t = true) (w : World) : Calls Try.prog 64 #[.string (bt t.text)] w fun e w' => e = .returned (enV (.mk (mkOf t.text))) ∧ Below w.heap.size w w' := by
  have := mark_any (mkOf t.text) w
  rwa [mk_txt h] at this

theorem begin_g (w : World) (s : St) (rs : List En) (out : List Rt) (t : Rt) (col : Int) (g : Nat) (hg : s.g = g) (h : LayAt w s rs out) (hn : rs.length + out.length ≤ 9000000) :
    Calls Try.prog 59 #[.pointer (some ⟨g, 0, none⟩), tokV t, .int .i64 col] w fun e w' => LPost s w (beginL t col rs).2.1 (out ++ (beginL t col rs).2.2) (.returned (.bool (beginL t col rs).1)) e w' := by
  subst hg; exact begin_any w s rs out t col h hn
theorem line_g (w : World) (s : St) (rs : List En) (out : List Rt) (t : Rt) (col : Int) (g : Nat) (hg : s.g = g) (h : LayAt w s rs out) (hn : rs.length + out.length ≤ 9000000) :
    Calls Try.prog 60 #[.pointer (some ⟨g, 0, none⟩), tokV t, .int .i64 col] w fun e w' => LinePost s w out (lnL t col (rs.length + 1) rs) e w' := by
  subst hg; exact line_any w s rs out t col h hn
theorem close_g (w : World) (s : St) (rs : List En) (out : List Rt) (t : Rt) (g : Nat) (hg : s.g = g) (h : LayAt w s rs out) (hn : rs.length + out.length ≤ 9000000) (hclo : cloB t = true) :
    Calls Try.prog 62 #[.pointer (some ⟨g, 0, none⟩), tokV t] w fun e w' => LPost s w (closeL t rs).1 (out ++ (closeL t rs).2) (.returned (.tuple #[])) e w' := by
  subst hg; exact close_any w s rs out t h hn hclo

/-- How much may be open and laid. -/
theorem begin_len (t : Rt) (col : Int) (rs : List En) : (beginL t col rs).2.1.length + (beginL t col rs).2.2.length ≤ rs.length + 2 := by
  unfold beginL
  split <;> simp
theorem curR_len : ∀ rs : List En, (curR rs).length ≤ rs.length
  | [] => Nat.le_refl _
  | .mk _ :: r => by have := curR_len r; simp only [curR, List.length_cons]; omega
  | .blk _ :: r => by simp [curR]
  | .brc :: r => by simp [curR]
theorem curR_lt : ∀ (rs : List En) (c : Int), curC rs = some c → (curR rs).length < rs.length
  | [], _, h => by simp [curC] at h
  | .mk _ :: r, c, h => by have := curR_lt r c (by simpa [curC] using h); simp only [curR, List.length_cons]; omega
  | .blk _ :: r, _, _ => by simp [curR]
  | .brc :: r, _, _ => by simp [curR]
theorem ln_len (t : Rt) (col : Int) : ∀ (k : Nat) (rs r : List En) (o : List Rt), lnL t col k rs = some (r, o) → r.length + o.length ≤ rs.length + 1
  | 0, _, _, _, h => by cases h
  | k + 1, rs, r, o, h => by
    rw [lnL] at h
    split at h
    · simp at h; obtain ⟨rfl, rfl⟩ := h; simp
    · rename_i c hc
      have hlt := curR_lt rs c hc
      split at h
      · simp at h; obtain ⟨rfl, rfl⟩ := h; simp
      · split at h
        · split at h
          · simp at h; obtain ⟨rfl, rfl⟩ := h; simp; omega
          · split at h
            · cases h
            · rename_i r' o' hx
              simp at h
              obtain ⟨rfl, rfl⟩ := h
              have := ln_len t col k _ _ _ hx
              simp; omega
        · cases h
theorem close_len (t : Rt) (rs : List En) : (closeL t rs).1.length + (closeL t rs).2.length ≤ rs.length := by
  unfold closeL
  split
  · simp
  · rename_i n e r hx
    obtain ⟨ab, h1, h2, _⟩ := topE_some _ _ _ _ _ _ hx
    have hb := nBlk_le ab
    have hl : rs.length = ab.length + r.length + 1 := by rw [h1]; simp; omega
    split
    · split
      · simp; omega
      · split <;> simp <;> omega
    · simp
theorem end_len (t : Rt) (rs : List En) : (endL t rs).1.length + (endL t rs).2.length ≤ rs.length := by
  unfold endL
  split
  · exact close_len t rs
  · simp
/-- Fuel does not matter. -/
theorem ln_fuel (t : Rt) (col : Int) : ∀ (k k' : Nat) (rs : List En), rs.length < k → rs.length < k' → lnL t col k rs = lnL t col k' rs
  | 0, _, _, h, _ => by omega
  | _ + 1, 0, _, _, h => by omega
  | k + 1, k' + 1, rs, h, h' => by
    rw [lnL, lnL]
    split
    · rfl
    · rename_i c hc
      have hlt := curR_lt rs c hc
      rw [ln_fuel t col k k' (curR rs) (by omega) (by omega)]

/-- What lies behind the first step. -/
def begL (t : Rt) (opened : Bool) (rs : List En) : Bool × List En × List Rt := if opened then beginL t t.col rs else (false, rs, [])
def secL (t : Rt) (first : Bool) (b : Bool × List En × List Rt) : Option (List En × List Rt) := if first && !b.1 then lnL t t.col (b.2.1.length + 1) b.2.1 else some (b.2.1, [])
theorem tokL_eq (t : Rt) (first opened : Bool) (rs : List En) (h : (opened && curB t) = false) :
    tokL t first opened rs = match secL t first (begL t opened rs) with
      | none => none
      | some (r2, o2) => some (mrkSt t (endL t r2).1, (begL t opened rs).2.2 ++ o2 ++ (endL t r2).2 ++ [t]) := by
  unfold tokL
  rw [if_neg (by rw [h]; exact Bool.false_ne_true)]
  show (match (if first && !(begL t opened rs).1 then lnL t t.col (rs.length + 1) (begL t opened rs).2.1 else some ((begL t opened rs).2.1, [])) with
    | none => none
    | some (r2, o2) => some (mrkSt t (endL t r2).1, (begL t opened rs).2.2 ++ o2 ++ (endL t r2).2 ++ [t])) = _
  have he : (if first && !(begL t opened rs).1 then lnL t t.col (rs.length + 1) (begL t opened rs).2.1 else some ((begL t opened rs).2.1, [])) = secL t first (begL t opened rs) := by
    unfold secL
    split
    · rename_i hc
      apply ln_fuel
      · unfold begL beginL at hc ⊢
        cases opened
        · simp
        · by_cases hx : (curC rs).getD 0 < t.col
          · simp [hx] at hc
          · simp [hx]
      · omega
    · rfl
  rw [he]
theorem beg_len (t : Rt) (opened : Bool) (rs : List En) : (begL t opened rs).2.1.length + (begL t opened rs).2.2.length ≤ rs.length + 2 := by
  unfold begL
  split
  · exact begin_len t t.col rs
  · simp
theorem sec_len {t : Rt} {first : Bool} {b : Bool × List En × List Rt} {r : List En} {o : List Rt} (h : secL t first b = some (r, o)) : r.length + o.length ≤ b.2.1.length + 1 := by
  unfold secL at h
  split at h
  · exact ln_len _ _ _ _ _ _ h
  · simp at h; obtain ⟨rfl, rfl⟩ := h; simp

theorem strOne (w : World) (x : List UInt8) : ∀ j (h : j < [x].length), (w.alloc (.cells #[.string (bt x)] 9)).cell? ⟨w.heap.size, j, none⟩ = some (.string (bt ([x][j]))) := fun j h => strObj_cell w 9 [x] j h

set_option maxHeartbeats 4000000 in
set_option maxRecDepth 100000 in
/-- A brace behind an opener. -/
theorem token_brace (w : World) (s : St) (rs : List En) (out : List Rt) (t : Rt) (first : Bool) (h : LayAt w s rs out) (hn : rs.length + out.length ≤ 8000000) (hc : curB t = true) :
    Calls Try.prog 33 #[.pointer (some ⟨s.g, 0, none⟩), tokV t, .bool first, .bool true] w fun e w' => LinePost s w out (tokL t first true rs) e w' := by
  have HR := Lib.hid (show tokL t first true rs = some (.brc :: rs, [t]) by rw [tokL, if_pos (by simp [hc])])
  have HL0 := Lib.hid (h.below (below_alloc w (boxT t)))
  have HS0 := Lib.hid (Step.of_below s (below_alloc w (boxT t)))
  have HX0 := Lib.hid (BX.new h t)
  have HC := Lib.hid hc
  clear h hc
  unfold tokV
  go_enter Try.func33, Try.ntmps33
  go_wp2_with fail
  refine (isSign_any t [[123]] (w.heap.size + 1) 1 ((w.alloc (boxT t)).alloc (.cells (strObj [[123]]) 9)) (by decide) (by simp) (fun j h => strObj_cell2 w (boxT t) 9 [[123]] j h)).mono ?_
  rintro e w2 ⟨rfl, hb2⟩
  rw [show signT t [[123]] = true from HC.out]
  have hb2' := blw2 (below_alloc (w.alloc (boxT t)) (.cells (strObj [[123]]) 9)) hb2
  have HL2 := Lib.hid (HL0.out.below hb2')
  have HS2 := Lib.hid (HS0.out.trans (.of_below s hb2'))
  have HX2 := Lib.hid (HX0.out.below hb2')
  obtain ⟨x0, x1, x2, x3, x4⟩ := HX2.out.at_
  clear hb2 hb2'
  go_wp2
  go_region_with (first
    | (go_at_call 57; refine (braces_any _).mono ?_; rintro e w3 ⟨rfl, hb3⟩; have HL3 := Lib.hid ((HL2.out.below (Below.refl _ _).drew).below hb3); have HS3 := Lib.hid (HS2.out.drew.trans (.of_below s hb3)); have HX3 := Lib.hid ((HX2.out.below (Below.refl _ _).drew).below hb3); clear hb3)
    | (go_at_call 56; refine (push_g _ s rs _ .brc s.g HS3.out.g HL3.out (by omega)).mono ?_; rintro e w4 ⟨rfl, s4, hl4, hs4⟩; have HL4 := Lib.hid hl4; have HS4 := Lib.hid (HS3.out.trans hs4); have HX4 := Lib.hid (HX3.out.step hs4); clear hl4 hs4))
  all_goals
    clear x0 x1 x2 x3 x4
    obtain ⟨x0, x1, x2, x3, x4⟩ := HX4.out.at_
    go_wp2_with fail
    refine (emit_g w4 s4 _ _ t s.g HS4.out.g HL4.out (by omega)).mono ?_
    rintro e w5 ⟨rfl, s5, hl5, hs5⟩
    have HL5 := Lib.hid hl5
    have HS5 := Lib.hid (HS4.out.trans hs5)
    clear hl5 hs5
    go_wp2
    go_ret
    unfold LinePost
    rw [HR.out]
    exact ⟨rfl, s5, HL5.out, HS5.out⟩

end Go.Proofs.Ytbjbmehkcfpahaa
