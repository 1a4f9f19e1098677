/- Where the tokens of the plain lexer stand in their text. No program is named. No condition. -/
import Derived.Test.YtjnkjciglkfbaaaJoins
namespace Go.Proofs.Ytjnkjciglkfbaaa
open Lx

/-- What stands at byte o of the text is the token t. -/
def TkOk (l : List UInt8) (o : Nat) (t : Tk) : Prop :=
  (t.kind = 9 ∧ o = l.length) ∨ (t.kind = 6 ∧ ∃ h : o < l.length, l[o] = 34) ∨ (t.kind ≠ 9 ∧ t.kind ≠ 6 ∧ 0 < t.text.length ∧ o + t.text.length ≤ l.length ∧ (l.drop o).take t.text.length = t.text)

/-- The tokens stand in the text from byte o on, one behind the other, the last one is the end. -/
def PlOk (l : List UInt8) : Nat → List Tk → Prop
  | _, [] => True
  | o, t :: ts => ∃ o', o ≤ o' ∧ o' ≤ l.length ∧ (t.line, t.col) = advL (1, 1) (l.take o') ∧ TkOk l o' t ∧ (t.kind = 9 ↔ ts = []) ∧ PlOk l o' ts

theorem PlOk.mono {l : List UInt8} {o o' : Nat} {ts : List Tk} (h : PlOk l o' ts) (ho : o ≤ o') : PlOk l o ts := by
  cases ts with
  | nil => trivial
  | cons t ts =>
    obtain ⟨o2, h1, h2⟩ := h
    exact ⟨o2, by omega, h2⟩

theorem tw_take (p : UInt8 → Bool) : ∀ l : List UInt8, l.takeWhile p = l.take (l.takeWhile p).length
  | [] => rfl
  | c :: l => by
    simp only [List.takeWhile_cons]
    split
    · simp only [List.length_cons, List.take_succ_cons]
      rw [← tw_take p l]
    · rfl

theorem kind_of (c : UInt8) (r : List UInt8) (he : (tokG (c :: r)).err = 0) :
    ((tokG (c :: r)).kind = 6 ∧ c = 34) ∨ ((tokG (c :: r)).kind ≠ 9 ∧ (tokG (c :: r)).kind ≠ 6 ∧ (tokG (c :: r)).text = (c :: r).take (tokG (c :: r)).len ∧ (tokG (c :: r)).text.length = (tokG (c :: r)).len) := by
  rw [tokG_cons] at he ⊢
  split
  · refine .inr ⟨?_, ?_, tw_take _ _, rfl⟩ <;> simp only [speltG, wordKindL] <;> repeat' split
    all_goals decide
  · rename_i h1
    rw [if_neg h1] at he
    split
    · rename_i h2
      rw [if_pos h2] at he
      unfold intG at he ⊢
      split
      · rename_i hv
        rw [hv] at he
        simp [badG] at he
      · exact .inr ⟨by simp [speltG], by simp [speltG], tw_take _ _, rfl⟩
    · rename_i h2
      rw [if_neg h2] at he
      split
      · refine .inr ⟨?_, ?_, tw_take _ _, rfl⟩ <;> simp only [speltG, operKindL] <;> repeat' split
        all_goals decide
      · rename_i h3
        rw [if_neg h3] at he
        split
        · exact .inr ⟨by simp [speltG], by simp [speltG], rfl, rfl⟩
        · rename_i h4
          rw [if_neg h4] at he
          split
          · rename_i h5
            rw [if_pos h5] at he
            refine .inl ⟨?_, by simpa using h5⟩
            unfold litG at he ⊢
            split
            · rename_i hv
              rw [hv] at he
              simp [badG] at he
            · rfl
          · rename_i h5
            rw [if_neg h5] at he
            simp [badG] at he

theorem take_take_add (l : List UInt8) (o n : Nat) : l.take o ++ (l.drop o).take n = l.take (o + n) := by
  rw [List.take_add]

theorem lx_places (l : List UInt8) (n : Nat) : ∀ (o : Nat) (ts : List Tk), (l.drop o).length ≤ n → o ≤ l.length → lx (l.drop o) (advL (1, 1) (l.take o)) = .ok ts → PlOk l o ts := by
  induction n with
  | zero =>
    intro o ts hn ho h
    have hl : o = l.length := by simp at hn; omega
    subst hl
    rw [List.drop_length, lx_end] at h
    simp at h
    subst h
    exact ⟨l.length, Nat.le_refl _, Nat.le_refl _, by rw [List.take_length], .inl ⟨rfl, rfl⟩, by simp, trivial⟩
  | succ n ih =>
    intro o ts hn ho h
    cases hg : gapL (l.drop o) with
    | none => rw [lx_none hg] at h; cases h
    | some g =>
      cases g with
      | zero =>
        by_cases hend : o = l.length
        · subst hend
          rw [List.drop_length, lx_end] at h
          simp at h
          subst h
          exact ⟨l.length, Nat.le_refl _, Nat.le_refl _, by rw [List.take_length], .inl ⟨rfl, rfl⟩, by simp, trivial⟩
        · have hlt : o < l.length := by omega
          have hd := List.drop_eq_getElem_cons hlt
          rw [hd] at h hg
          by_cases he : (tokG (l[o] :: l.drop (o + 1))).err = 0
          · have hl := tokG_len _ _ he
            have hk := kind_of _ _ he
            rw [lx_tok hg he] at h
            rw [← hd] at h hl hk
            have hlen : (l.drop (o + 1)).length = l.length - (o + 1) := by simp
            rw [hlen] at hl
            rw [List.drop_drop, ← advL_append, take_take_add] at h
            cases hx : lx (l.drop (o + (tokG (l.drop o)).len)) (advL (1, 1) (l.take (o + (tokG (l.drop o)).len))) with
            | error d => rw [hx] at h; simp [Except.map] at h
            | ok us =>
              rw [hx] at h
              simp [Except.map] at h
              subst h
              have hi := ih (o + (tokG (l.drop o)).len) us (by simp at hn ⊢; omega) (by omega) hx
              obtain ⟨fr, e⟩ := lx_ne _ _ _ _ (Nat.le_refl _) hx
              have hus : us ≠ [] := by rw [e]; simp
              refine ⟨o, Nat.le_refl _, ho, rfl, ?_, ?_, hi.mono (by omega)⟩
              · rcases hk with ⟨k1, k2⟩ | ⟨k1, k2, k3, k4⟩
                · exact .inr (.inl ⟨k1, hlt, k2⟩)
                · refine .inr (.inr ⟨k1, k2, ?_, ?_, ?_⟩)
                  · simp only [k4]; omega
                  · simp only [k4]; omega
                  · simp only [k4]; exact k3.symm
              · constructor
                · intro h9
                  exfalso
                  simp only at h9
                  rcases hk with ⟨k1, _⟩ | ⟨k1, _⟩
                  · omega
                  · exact k1 h9
                · intro h9
                  exact absurd h9 hus
          · rw [lx_bad hg he] at h; cases h
      | succ g =>
        have hle := gap_le _ _ hg
        rw [lx_gap hg, List.drop_drop, ← advL_append, take_take_add] at h
        simp at hle hn
        have hi := ih (o + (g + 1)) ts (by simp; omega) (by omega) h
        exact hi.mono (by omega)

theorem adv_mono1 (c : UInt8) (p : Nat × Nat) : p.1 < (advL p [c]).1 ∨ (p.1 = (advL p [c]).1 ∧ p.2 < (advL p [c]).2) := by
  simp only [advL]
  split <;> simp

theorem adv_mono : ∀ (m : List UInt8) (p : Nat × Nat), m ≠ [] → p.1 < (advL p m).1 ∨ (p.1 = (advL p m).1 ∧ p.2 < (advL p m).2)
  | [], _, h => absurd rfl h
  | [c], p, _ => adv_mono1 c p
  | c :: d :: m, p, _ => by
    have h1 := adv_mono1 c p
    have h2 := adv_mono (d :: m) (advL p [c]) (by simp)
    have e : advL p (c :: d :: m) = advL (advL p [c]) (d :: m) := by rw [← advL_append]; rfl
    rw [e]
    omega

theorem adv_lt (l : List UInt8) (a o : Nat) (h : a < o) (ho : o ≤ l.length) : (advL (1, 1) (l.take a)).1 < (advL (1, 1) (l.take o)).1 ∨ ((advL (1, 1) (l.take a)).1 = (advL (1, 1) (l.take o)).1 ∧ (advL (1, 1) (l.take a)).2 < (advL (1, 1) (l.take o)).2) := by
  have e : l.take o = l.take a ++ (l.drop a).take (o - a) := by rw [take_take_add]; congr 1; omega
  rw [e, advL_append]
  apply adv_mono
  intro h0
  have := congrArg List.length h0
  simp at this
  omega
end Go.Proofs.Ytjnkjciglkfbaaa
