/- What is true of the plain lexer: fuel does not matter; a shift; spaces ahead; a newline behind. No program is named. No condition. -/
import Derived.Test.YtbjbmehkcfpahaaRead
namespace Go.Proofs.Ytbjbmehkcfpahaa
open Lx

/-- The lexer with enough fuel. -/
def lx (l : List UInt8) (p : Nat × Nat) : Except Dg (List Tk) := lexL (l.length + 1) l p

theorem lexL_fuel (n : Nat) : ∀ (l : List UInt8) (p : Nat × Nat) (k k' : Nat), l.length ≤ n → l.length < k → l.length < k' → lexL k l p = lexL k' l p := by
  induction n with
  | zero =>
    intro l p k k' hn hk hk'
    have : l = [] := List.eq_nil_of_length_eq_zero (by omega)
    subst this
    rw [lexL_end (by omega), lexL_end (by omega)]
  | succ n ih =>
    intro l p k k' hn hk hk'
    obtain ⟨k, rfl⟩ : ∃ j, k = j + 1 := ⟨k - 1, by omega⟩
    obtain ⟨k', rfl⟩ : ∃ j, k' = j + 1 := ⟨k' - 1, by omega⟩
    cases hg : gapL l with
    | none => rw [lexL_none (by omega) hg, lexL_none (by omega) hg]
    | some g =>
      cases g with
      | zero =>
        cases l with
        | nil => rw [lexL_end (by omega), lexL_end (by omega)]
        | cons c r =>
          by_cases he : (tokG (c :: r)).err = 0
          · have hl := tokG_len c r he
            simp only [List.length_cons] at hn hk hk'
            rw [lexL_tok hg he, lexL_tok hg he, ih _ _ k k' (by simp; omega) (by simp; omega) (by simp; omega)]
          · rw [lexL_bad (by omega) hg he, lexL_bad (by omega) hg he]
      | succ g =>
        have := gap_le l _ hg
        rw [lexL_gap hg, lexL_gap hg]
        exact ih _ _ _ _ (by simp; omega) (by simp; omega) (by simp; omega)

theorem lx_none {l : List UInt8} {p : Nat × Nat} (h : gapL l = none) : lx l p = .error ⟨p.1, p.2, 14⟩ := lexL_none (by omega) h
theorem lx_end (p : Nat × Nat) : lx [] p = .ok [⟨9, [], 0, p.1, p.2⟩] := lexL_end (by simp)
theorem lx_gap {l : List UInt8} {p : Nat × Nat} {g : Nat} (h : gapL l = some (g + 1)) : lx l p = lx (l.drop (g + 1)) (advL p (l.take (g + 1))) := by
  have := gap_le l _ h
  unfold lx
  rw [lexL_gap h]
  exact lexL_fuel l.length _ _ _ _ (by simp) (by simp; omega) (by omega)
theorem lx_bad {c : UInt8} {r : List UInt8} {p : Nat × Nat} (h : gapL (c :: r) = some 0) (he : (tokG (c :: r)).err ≠ 0) : lx (c :: r) p = .error ⟨p.1, p.2, (tokG (c :: r)).err⟩ := lexL_bad (by omega) h he
theorem lx_tok {c : UInt8} {r : List UInt8} {p : Nat × Nat} (h : gapL (c :: r) = some 0) (he : (tokG (c :: r)).err = 0) :
    lx (c :: r) p = (lx ((c :: r).drop (tokG (c :: r)).len) (advL p ((c :: r).take (tokG (c :: r)).len))).map (fun ts => ⟨(tokG (c :: r)).kind, (tokG (c :: r)).text, (tokG (c :: r)).n, p.1, p.2⟩ :: ts) := by
  have hl := tokG_len c r he
  unfold lx
  rw [lexL_tok h he, lexL_fuel r.length _ _ _ _ (by simp; omega) (by simp; omega) (Nat.lt_succ_self _)]

theorem readL_lx {l : List UInt8} (h : l.length ≤ 16384) : readL l = lx l (1, 1) := by rw [readL, if_neg (by omega)]; rfl

theorem advL_append : ∀ (a b : List UInt8) (p : Nat × Nat), advL p (a ++ b) = advL (advL p a) b
  | [], _, _ => rfl
  | c :: a, b, p => by simp only [List.cons_append, advL]; exact advL_append a b _

/-- A place moved down by lines, and in the first line to the right. -/
def shP (m n : Nat) (p : Nat × Nat) : Nat × Nat := (p.1 + m, if p.1 = 1 then p.2 + n else p.2)

theorem adv_sh (m n : Nat) : ∀ (l : List UInt8) (p : Nat × Nat), 1 ≤ p.1 → advL (shP m n p) l = shP m n (advL p l) ∧ 1 ≤ (advL p l).1
  | [], p, h => ⟨rfl, h⟩
  | c :: l, p, h => by
    rw [advL, advL]
    by_cases hc : c = 10
    · rw [if_pos hc, if_pos hc]
      have := adv_sh m n l (p.1 + 1, 1) (by simp)
      have e : shP m n (p.1 + 1, 1) = ((shP m n p).1 + 1, 1) := by
        simp [shP]
        omega
      rw [← e]
      exact this
    · rw [if_neg hc, if_neg hc]
      have := adv_sh m n l (p.1, p.2 + 1) h
      have e : shP m n (p.1, p.2 + 1) = ((shP m n p).1, (shP m n p).2 + 1) := by
        simp only [shP, Prod.mk.injEq, true_and]
        split <;> omega
      rw [← e]
      exact this

def shT (m n : Nat) (t : Tk) : Tk := { t with line := (shP m n (t.line, t.col)).1, col := (shP m n (t.line, t.col)).2 }
def shD (m n : Nat) (d : Dg) : Dg := { d with line := (shP m n (d.line, d.col)).1, col := (shP m n (d.line, d.col)).2 }
def shR (m n : Nat) : Except Dg (List Tk) → Except Dg (List Tk)
  | .error d => .error (shD m n d)
  | .ok ts => .ok (ts.map (shT m n))

theorem lx_sh (m n : Nat) (k : Nat) : ∀ (l : List UInt8) (p : Nat × Nat), l.length ≤ k → 1 ≤ p.1 → lx l (shP m n p) = shR m n (lx l p) := by
  induction k with
  | zero =>
    intro l p hk hp
    have : l = [] := List.eq_nil_of_length_eq_zero (by omega)
    subst this
    rw [lx_end, lx_end]
    rfl
  | succ k ih =>
    intro l p hk hp
    cases hg : gapL l with
    | none => rw [lx_none hg, lx_none hg]; rfl
    | some g =>
      cases g with
      | zero =>
        cases l with
        | nil => rw [lx_end, lx_end]; rfl
        | cons c r =>
          by_cases he : (tokG (c :: r)).err = 0
          · have hl := tokG_len c r he
            have ha := adv_sh m n ((c :: r).take (tokG (c :: r)).len) p hp
            simp only [List.length_cons] at hk
            rw [lx_tok hg he, lx_tok hg he, ha.1, ih _ _ (by simp; omega) ha.2]
            cases lx ((c :: r).drop (tokG (c :: r)).len) (advL p ((c :: r).take (tokG (c :: r)).len)) <;> rfl
          · rw [lx_bad hg he, lx_bad hg he]; rfl
      | succ g =>
        have := gap_le l _ hg
        have ha := adv_sh m n (l.take (g + 1)) p hp
        rw [lx_gap hg, lx_gap hg, ha.1]
        exact ih _ _ (by simp; omega) ha.2

theorem tw_space : ∀ (a t : List UInt8), a.all spaceB = true → (a ++ t).takeWhile spaceB = a ++ t.takeWhile spaceB
  | [], _, _ => rfl
  | c :: a, t, h => by
    simp at h
    simp only [List.cons_append, List.takeWhile_cons, h.1, if_true]
    rw [tw_space a t (by simpa using h.2)]

theorem gap_space {l : List UInt8} (h : (l.takeWhile spaceB).length ≠ 0) : gapL l = some (l.takeWhile spaceB).length := by
  unfold gapL
  rw [if_neg h]

theorem lx_space (a t : List UInt8) (p : Nat × Nat) (ha : a.all spaceB = true) : lx (a ++ t) p = lx t (advL p a) := by
  cases a with
  | nil => rfl
  | cons c a =>
    have hw := tw_space (c :: a) t ha
    obtain ⟨s, hs⟩ : ∃ s, s = (t.takeWhile spaceB).length := ⟨_, rfl⟩
    have hl : ((c :: a ++ t).takeWhile spaceB).length = (a.length + s) + 1 := by rw [hw, List.length_append, ← hs, List.length_cons]; omega
    have hg : gapL (c :: a ++ t) = some ((a.length + s) + 1) := by rw [gap_space (by omega), hl]
    rw [lx_gap hg]
    have e1 : (c :: a ++ t).drop (a.length + s + 1) = t.drop s := by
      rw [show a.length + s + 1 = (c :: a).length + s from by simp; omega, List.drop_append]
      simp
    have e2 : (c :: a ++ t).take (a.length + s + 1) = (c :: a) ++ t.take s := by
      rw [show a.length + s + 1 = (c :: a).length + s from by simp; omega, List.take_length_add_append]
    rw [e1, e2, advL_append]
    cases s with
    | zero => rfl
    | succ s =>
      rw [lx_gap (l := t) (g := s) (by rw [gap_space (by omega), hs])]

theorem tw_app {p : UInt8 → Bool} (hp : p 10 = false) (b : List UInt8) : ∀ r : List UInt8, (r ++ 10 :: b).takeWhile p = r.takeWhile p
  | [] => by simp [hp]
  | c :: r => by
    simp only [List.cons_append, List.takeWhile_cons, tw_app hp b r]

theorem open_app (c : UInt8) (r b : List UInt8) : openB (c :: r ++ 10 :: b) = openB (c :: r) := by
  cases r with
  | nil => simp [openB, List.isPrefixOf]
  | cons d r => simp [openB, List.isPrefixOf]
theorem close_app (c : UInt8) (r b : List UInt8) : closeB (c :: r ++ 10 :: b) = closeB (c :: r) := by
  cases r with
  | nil => simp [closeB, List.isPrefixOf]
  | cons d r => simp [closeB, List.isPrefixOf]

theorem open_two {c : UInt8} {r : List UInt8} (h : openB (c :: r) = true) : ∃ d r', r = d :: r' := by
  cases r with
  | nil => simp [openB, List.isPrefixOf] at h
  | cons d r => exact ⟨d, r, rfl⟩
theorem close_two {c : UInt8} {r : List UInt8} (h : closeB (c :: r) = true) : ∃ d r', r = d :: r' := by
  cases r with
  | nil => simp [closeB, List.isPrefixOf] at h
  | cons d r => exact ⟨d, r, rfl⟩

theorem blk_app (b : List UInt8) : ∀ (k k' : Nat) (d : Int) (r : List UInt8) (g : Nat), k ≤ k' → blkL k d r = some g → blkL k' d (r ++ 10 :: b) = some g
  | 0, _, _, _, _, _, h => by cases h
  | _ + 1, _, _, [], _, _, h => by cases h
  | k + 1, k', d, c :: r, g, hk, h => by
    obtain ⟨k', rfl⟩ : ∃ j, k' = j + 1 := ⟨k' - 1, by omega⟩
    have ho := open_app c r b
    have hc := close_app c r b
    rw [blkL] at h
    rw [List.cons_append] at ho hc ⊢
    rw [blkL, ho, hc]
    cases h1 : openB (c :: r) with
    | true =>
      obtain ⟨x, r', rfl⟩ := open_two h1
      rw [h1] at h
      simp only [if_true] at h ⊢
      split at h
      · rename_i hd; rw [if_pos hd]; exact h
      · rename_i hd
        rw [if_neg hd]
        simp only [List.drop_succ_cons, List.drop_zero, List.cons_append] at h ⊢
        cases hb : blkL k (d + 1) r' with
        | none => rw [hb] at h; cases h
        | some m => rw [hb] at h; rw [blk_app b k k' _ r' m (by omega) hb]; exact h
    | false =>
      rw [h1] at h
      simp only [Bool.false_eq_true, if_false] at h ⊢
      cases h2 : closeB (c :: r) with
      | true =>
        obtain ⟨x, r', rfl⟩ := close_two h2
        rw [h2] at h
        simp only [if_true] at h ⊢
        split at h
        · rename_i hd; rw [if_pos hd]; exact h
        · rename_i hd
          rw [if_neg hd]
          simp only [List.drop_succ_cons, List.drop_zero, List.cons_append] at h ⊢
          cases hb : blkL k (d - 1) r' with
          | none => rw [hb] at h; cases h
          | some m => rw [hb] at h; rw [blk_app b k k' _ r' m (by omega) hb]; exact h
      | false =>
        rw [h2] at h
        simp only [Bool.false_eq_true, if_false] at h ⊢
        split at h
        · rename_i hd; rw [if_pos hd]; exact h
        · rename_i hd
          rw [if_neg hd]
          cases hb : blkL k d r with
          | none => rw [hb] at h; cases h
          | some m => rw [hb] at h; rw [blk_app b k k' _ r m (by omega) hb]; exact h

theorem blk_un : ∀ (k k' : Nat) (d : Int) (r : List UInt8), r.length ≤ k → 1 ≤ d → blkL k d r = none → blkL k' d (r ++ [10]) = none
  | _, 0, _, _, _, _, _ => rfl
  | k, k' + 1, d, [], _, hd, _ => by
    rw [List.nil_append, blkL]
    have ho : openB [10] = false := rfl
    have hc : closeB [10] = false := rfl
    rw [ho, hc]
    simp only [Bool.false_eq_true, if_false]
    rw [if_neg (by omega)]
    cases k' <;> rfl
  | 0, _ + 1, _, _ :: _, hk, _, _ => by simp at hk
  | k + 1, k' + 1, d, c :: r, hk, hd, h => by
    have ho := open_app c r []
    have hc := close_app c r []
    simp only [List.length_cons] at hk
    rw [blkL] at h
    rw [List.cons_append] at ho hc ⊢
    rw [blkL, ho, hc]
    cases h1 : openB (c :: r) with
    | true =>
      obtain ⟨x, r', rfl⟩ := open_two h1
      rw [h1] at h
      simp only [if_true] at h ⊢
      rw [if_neg (by omega)] at h ⊢
      simp only [List.drop_succ_cons, List.drop_zero, List.cons_append, List.length_cons] at h hk ⊢
      rw [blk_un k k' _ r' (by omega) (by omega) (by simpa using h)]
      rfl
    | false =>
      rw [h1] at h
      simp only [Bool.false_eq_true, if_false] at h ⊢
      cases h2 : closeB (c :: r) with
      | true =>
        obtain ⟨x, r', rfl⟩ := close_two h2
        rw [h2] at h
        simp only [if_true] at h ⊢
        split at h
        · cases h
        · rename_i hd'
          rw [if_neg hd']
          simp only [List.drop_succ_cons, List.drop_zero, List.cons_append, List.length_cons] at h hk ⊢
          rw [blk_un k k' _ r' (by omega) (by omega) (by simpa using h)]
          rfl
      | false =>
        rw [h2] at h
        simp only [Bool.false_eq_true, if_false] at h ⊢
        rw [if_neg (by omega)] at h ⊢
        rw [blk_un k k' _ r (by omega) hd (by simpa using h)]
        rfl

theorem tw_notall (t : List UInt8) : ∀ r : List UInt8, r.all spaceB = false → (r ++ t).takeWhile spaceB = r.takeWhile spaceB
  | [], h => by simp at h
  | c :: r, h => by
    simp only [List.cons_append, List.takeWhile_cons]
    cases hc : spaceB c with
    | false => rfl
    | true =>
      rw [tw_notall t r (by simpa [hc] using h)]

theorem line_app (r b : List UInt8) : lineL (r ++ 10 :: b) = lineL r := by
  unfold lineL
  rw [tw_app (by rfl) b r, tw_app (by rfl) b r]

theorem gap_app {r : List UInt8} (b : List UInt8) {g : Nat} (hn : r.all spaceB = false) (h : gapL r = some g) : gapL (r ++ 10 :: b) = some g := by
  cases r with
  | nil => simp at hn
  | cons c r =>
    unfold gapL at h ⊢
    rw [tw_notall _ _ hn, open_app, line_app]
    split at h
    · rename_i h0
      rw [if_pos h0]
      split at h
      · rename_i h1
        rw [if_pos h1]
        exact blk_app b _ _ _ _ _ (by simp) h
      · rename_i h1
        rw [if_neg h1]
        exact h
    · rename_i h0
      rw [if_neg h0]
      exact h

theorem gap_un {r : List UInt8} (h : gapL r = none) : gapL (r ++ [10]) = none := by
  cases r with
  | nil => simp [gapL, openB] at h
  | cons c r =>
    unfold gapL at h ⊢
    split at h
    · rename_i h0
      split at h
      · rename_i h1
        obtain ⟨x, r', rfl⟩ := open_two h1
        have hs : (c :: x :: r').all spaceB = false := by
          have hc : c = 123 := by
            simp [openB, List.isPrefixOf] at h1
            exact h1.1.symm
          subst hc
          rfl
        rw [tw_notall _ _ hs, if_pos h0, open_app, if_pos h1]
        simp only [List.length_cons, List.cons_append] at h ⊢
        rw [blkL, if_pos h1, if_neg (by omega)] at h
        have h1' := open_app c (x :: r') []
        rw [h1, List.cons_append, List.cons_append] at h1'
        rw [blkL, if_pos h1', if_neg (by omega)]
        simp only [List.drop_succ_cons, List.drop_zero] at h ⊢
        rw [blk_un (r'.length + 1) _ _ r' (by omega) (by omega) (by simpa using h)]
        rfl
      · cases h
    · cases h
end Go.Proofs.Ytbjbmehkcfpahaa
