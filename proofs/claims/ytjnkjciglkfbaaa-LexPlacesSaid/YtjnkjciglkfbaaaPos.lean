/- What is true of the plain lexer: where its tokens and its errors stand. No program is named. No condition. -/
import Derived.Test.YtjnkjciglkfbaaaFirstOk
namespace Go.Proofs.Ytjnkjciglkfbaaa
open Lx

/-- Every place that an answer names is one of the text's. -/
def PosOk (l : List UInt8) (p : Nat × Nat) : Except Dg (List Tk) → Prop
  | .error d => ∃ a, a.length ≤ l.length ∧ (d.line, d.col) = advL p a
  | .ok ts => ∀ t ∈ ts, ∃ a, a.length ≤ l.length ∧ (t.line, t.col) = advL p a

theorem pos_step {l : List UInt8} {p : Nat × Nat} {n : Nat} {q : Nat × Nat} (hn : n ≤ l.length) (h : ∃ a, a.length ≤ (l.drop n).length ∧ q = advL (advL p (l.take n)) a) : ∃ a, a.length ≤ l.length ∧ q = advL p a := by
  obtain ⟨a, h1, h2⟩ := h
  refine ⟨l.take n ++ a, ?_, ?_⟩
  · simp at h1 ⊢
    omega
  · rw [h2, advL_append]

theorem lx_pos (n : Nat) : ∀ (l : List UInt8) (p : Nat × Nat), l.length ≤ n → PosOk l p (lx l p) := by
  induction n with
  | zero =>
    intro l p hn
    have : l = [] := List.eq_nil_of_length_eq_zero (by omega)
    subst this
    rw [lx_end]
    intro t ht
    simp at ht
    subst ht
    exact ⟨[], by simp, rfl⟩
  | succ n ih =>
    intro l p hn
    cases hg : gapL l with
    | none => rw [lx_none hg]; exact ⟨[], by simp, rfl⟩
    | some g =>
      cases g with
      | zero =>
        cases l with
        | nil =>
          rw [lx_end]
          intro t ht
          simp at ht
          subst ht
          exact ⟨[], by simp, rfl⟩
        | cons c r =>
          by_cases he : (tokG (c :: r)).err = 0
          · have hl := tokG_len c r he
            simp only [List.length_cons] at hn
            rw [lx_tok hg he]
            have hi := ih ((c :: r).drop (tokG (c :: r)).len) (advL p ((c :: r).take (tokG (c :: r)).len)) (by simp; omega)
            cases hx : lx ((c :: r).drop (tokG (c :: r)).len) (advL p ((c :: r).take (tokG (c :: r)).len)) with
            | error d =>
              rw [hx] at hi
              exact pos_step (by simpa using hl.2) hi
            | ok ts =>
              rw [hx] at hi
              intro t ht
              simp at ht
              rcases ht with rfl | ht
              · exact ⟨[], by simp, rfl⟩
              · exact pos_step (by simpa using hl.2) (hi t ht)
          · rw [lx_bad hg he]; exact ⟨[], by simp, rfl⟩
      | succ g =>
        have hle := gap_le l _ hg
        have hi := ih (l.drop (g + 1)) (advL p (l.take (g + 1))) (by simp; omega)
        rw [lx_gap hg]
        cases hx : lx (l.drop (g + 1)) (advL p (l.take (g + 1))) with
        | error d => rw [hx] at hi; exact pos_step hle hi
        | ok ts => rw [hx] at hi; exact fun t ht => pos_step hle (hi t ht)

theorem adv_pos (a : List UInt8) (p : Nat × Nat) (h1 : 1 ≤ p.1) (h2 : 1 ≤ p.2) : 1 ≤ (advL p a).1 ∧ 1 ≤ (advL p a).2 := by
  rw [advL_eq]
  split <;> simp <;> omega

theorem pos_bound {l : List UInt8} {q : Nat × Nat} (h : ∃ a, a.length ≤ l.length ∧ q = advL (1, 1) a) : 1 ≤ q.1 ∧ 1 ≤ q.2 ∧ q.1 ≤ l.length + 1 ∧ q.2 ≤ l.length + 1 := by
  obtain ⟨a, h1, rfl⟩ := h
  have := adv_bd a (1, 1) (by simp)
  have := adv_pos a (1, 1) (by simp) (by simp)
  simp at *
  omega

theorem tok_bound {l : List UInt8} {ts : List Tk} (h : lx l (1, 1) = .ok ts) {t : Tk} (ht : t ∈ ts) : 1 ≤ t.line ∧ 1 ≤ t.col ∧ t.line ≤ l.length + 1 ∧ t.col ≤ l.length + 1 := by
  have := lx_pos _ l (1, 1) (Nat.le_refl _)
  rw [h] at this
  exact pos_bound (q := (t.line, t.col)) (this t ht)

theorem err_bound {l : List UInt8} {d : Dg} (h : lx l (1, 1) = .error d) : 1 ≤ d.line ∧ 1 ≤ d.col ∧ d.line ≤ l.length + 1 ∧ d.col ≤ l.length + 1 := by
  have := lx_pos _ l (1, 1) (Nat.le_refl _)
  rw [h] at this
  exact pos_bound (q := (d.line, d.col)) this

/-- Newlines, and blanks. -/
def nls (m : Nat) : List UInt8 := List.replicate m 10
def sps (n : Nat) : List UInt8 := List.replicate n 32
theorem nls_len (m : Nat) : (nls m).length = m := by simp [nls]
theorem sps_len (n : Nat) : (sps n).length = n := by simp [sps]
theorem nls_snoc (m : Nat) : nls m ++ [10] = nls (m + 1) := by simp [nls, List.replicate_succ']
theorem sps_snoc (a : List UInt8) (n : Nat) : a ++ sps n ++ [32] = a ++ sps (n + 1) := by simp [sps, List.replicate_succ']

theorem adv_nls : ∀ (m : Nat) (p : Nat × Nat), advL p (nls (m + 1)) = (p.1 + (m + 1), 1)
  | 0, p => rfl
  | m + 1, p => by
    show advL p (10 :: nls (m + 1)) = _
    rw [advL, if_pos rfl, adv_nls m]
    simp
    omega
theorem adv_sps : ∀ (n : Nat) (p : Nat × Nat), advL p (sps n) = (p.1, p.2 + n)
  | 0, p => rfl
  | n + 1, p => by
    show advL p (32 :: sps n) = _
    rw [advL, if_neg (by decide), adv_sps n]
    simp
    omega
theorem adv_ahead (m n : Nat) : advL (1, 1) (nls m ++ sps n) = shP m n (1, 1) := by
  rw [advL_append, adv_sps]
  cases m with
  | zero => simp [nls, advL, shP]
  | succ m => rw [adv_nls]; simp [shP]

theorem ahead_space (m n : Nat) : (nls m ++ sps n).all spaceB = true := by
  simp [nls, sps]
  exact ⟨.inr rfl, .inr rfl⟩

theorem read_ahead (m n : Nat) (l : List UInt8) (h : m + n + l.length ≤ 16384) : readL (nls m ++ sps n ++ l) = shR m n (readL l) := by
  rw [readL_lx (by simp [nls_len, sps_len]; omega), readL_lx (by omega), lx_space _ _ _ (ahead_space m n), adv_ahead, lx_sh m n l.length l (1, 1) (Nat.le_refl _) (by simp)]
end Go.Proofs.Ytjnkjciglkfbaaa
