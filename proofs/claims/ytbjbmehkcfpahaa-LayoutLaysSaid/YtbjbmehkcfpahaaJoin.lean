/- What is true of the plain lexer: a text with a newline and more behind; where tokens stand. No program is named. No condition. -/
import Derived.Test.YtbjbmehkcfpahaaLex
namespace Go.Proofs.Ytbjbmehkcfpahaa
open Lx

theorem esc_app (c : UInt8) (r b : List UInt8) : escL (c :: r ++ 10 :: b) = escL (c :: r) := by
  unfold escL
  simp only [List.cons_append, List.drop_succ_cons, List.drop_zero]
  rw [tw_app (by rfl) b r]
  split
  · cases r with
    | nil => simp
    | cons d r => simp
  · rfl

theorem char_app (c : UInt8) (r b : List UInt8) : charL (c :: r ++ 10 :: b) = charL (c :: r) := by
  have h := esc_app c r b
  rw [List.cons_append] at h ⊢
  rw [charL_cons, charL_cons, h]

theorem lit_app (b : List UInt8) : ∀ (k k' : Nat) (r : List UInt8), r.length ≤ k → r.length ≤ k' → litL k' (r ++ 10 :: b) = litL k r
  | k, 0, [], _, _ => by cases k <;> rfl
  | k, k' + 1, [], _, _ => by
    rw [List.nil_append, litL]
    have h : (charL (10 :: b)).2 = 0 := by rw [charL_cons]; rfl
    rw [if_neg (by decide), if_pos h]
    cases k <;> rfl
  | 0, _, _ :: _, h, _ => by simp at h
  | _, 0, _ :: _, _, h => by simp at h
  | k + 1, k' + 1, c :: r, h, h' => by
    simp only [List.length_cons] at h h'
    have hc := char_app c r b
    have hl := charL_le c r
    rw [List.cons_append] at hc ⊢
    rw [litL, litL, hc]
    by_cases h1 : c = 34
    · rw [if_pos h1, if_pos h1]
    · rw [if_neg h1, if_neg h1]
      by_cases h2 : (charL (c :: r)).2 = 0
      · rw [if_pos h2, if_pos h2]
      · rw [if_neg h2, if_neg h2]
        have e : (c :: (r ++ 10 :: b)).drop (charL (c :: r)).2 = (c :: r).drop (charL (c :: r)).2 ++ 10 :: b := by
          rw [← List.cons_append, List.drop_append_of_le_length (by simpa using hl)]
        rw [e, lit_app b k k' _ (by simp; omega) (by simp; omega)]

theorem tok_app (c : UInt8) (r b : List UInt8) : tokG (c :: r ++ 10 :: b) = tokG (c :: r) := by
  have t1 := tw_app (p := wordB) (by rfl) b (c :: r)
  have t2 := tw_app (p := digB) (by rfl) b (c :: r)
  have t3 := tw_app (p := symB) (by rfl) b (c :: r)
  have hi : intG (c :: r ++ 10 :: b) = intG (c :: r) := by unfold intG; rw [t2]
  have hq : litG (c :: r ++ 10 :: b) = litG (c :: r) := by
    unfold litG
    simp only [List.cons_append, List.drop_succ_cons, List.drop_zero]
    rw [lit_app b (c :: r).length _ r (by simp) (by simp; omega)]
  rw [List.cons_append] at hi hq t1 t2 t3 ⊢
  rw [tokG_cons, tokG_cons, hi, hq, t1, t3]

theorem drop_app {r s : List UInt8} {n : Nat} (h : n ≤ r.length) : (r ++ s).drop n = r.drop n ++ s := List.drop_append_of_le_length h
theorem take_app {r s : List UInt8} {n : Nat} (h : n ≤ r.length) : (r ++ s).take n = r.take n := List.take_append_of_le_length h

theorem gap_all {r : List UInt8} (hr : r.all spaceB = true) (p : Nat × Nat) : lx r p = .ok [⟨9, [], 0, (advL p r).1, (advL p r).2⟩] := by
  have := lx_space r [] p hr
  rw [List.append_nil, lx_end] at this
  exact this

/-- A text, a newline, and more. -/
def JoinOk (b r : List UInt8) (p : Nat × Nat) : Except Dg (List Tk) → Prop
  | .error d => (d.num ≠ 14 → lx (r ++ 10 :: b) p = .error d) ∧ (d.num = 14 → lx (r ++ [10]) p = .error d)
  | .ok ts => ∃ fr, ts = fr ++ [⟨9, [], 0, (advL p r).1, (advL p r).2⟩] ∧ lx (r ++ 10 :: b) p = (lx (10 :: b) (advL p r)).map (fr ++ ·)

theorem err_of (c : UInt8) (r : List UInt8) : (tokG (c :: r)).err = 0 ∨ (tokG (c :: r)).err = 11 ∨ (tokG (c :: r)).err = 12 ∨ (tokG (c :: r)).err = 13 := by
  rw [tokG_cons]
  repeat' split
  · exact .inl rfl
  · unfold intG
    split
    · exact .inr (.inr (.inl rfl))
    · exact .inl rfl
  · exact .inl rfl
  · exact .inl rfl
  · unfold litG
    split
    · exact .inr (.inr (.inr rfl))
    · exact .inl rfl
  · exact .inr (.inl rfl)

theorem lx_join (b : List UInt8) (n : Nat) : ∀ (r : List UInt8) (p : Nat × Nat), r.length ≤ n → JoinOk b r p (lx r p) := by
  induction n with
  | zero =>
    intro r p hn
    have : r = [] := List.eq_nil_of_length_eq_zero (by omega)
    subst this
    rw [lx_end]
    refine ⟨[], rfl, ?_⟩
    show lx (10 :: b) p = _
    cases h : lx (10 :: b) p <;> simp [advL, h, Except.map]
  | succ n ih =>
    intro r p hn
    cases hall : r.all spaceB with
    | true =>
      rw [gap_all hall]
      refine ⟨[], rfl, ?_⟩
      rw [lx_space r _ p hall]
      cases h : lx (10 :: b) (advL p r) <;> simp [Except.map]
    | false =>
      cases hg : gapL r with
      | none =>
        rw [lx_none hg]
        refine ⟨fun h => absurd rfl h, fun _ => lx_none (gap_un hg)⟩
      | some g =>
        have hga := gap_app b hall hg
        have hgn := gap_app [] hall hg
        cases g with
        | zero =>
          cases r with
          | nil => simp at hall
          | cons c r =>
            have ht := tok_app c r b
            have htn := tok_app c r []
            rw [List.cons_append] at ht hga htn hgn
            by_cases he : (tokG (c :: r)).err = 0
            · have hl := tokG_len c r he
              simp only [List.length_cons] at hn
              have hd := drop_app (r := c :: r) (s := 10 :: b) (n := (tokG (c :: r)).len) (by simpa using hl.2)
              have hk := take_app (r := c :: r) (s := 10 :: b) (n := (tokG (c :: r)).len) (by simpa using hl.2)
              have hdn := drop_app (r := c :: r) (s := [10]) (n := (tokG (c :: r)).len) (by simpa using hl.2)
              have hkn := take_app (r := c :: r) (s := [10]) (n := (tokG (c :: r)).len) (by simpa using hl.2)
              have hi := ih ((c :: r).drop (tokG (c :: r)).len) (advL p ((c :: r).take (tokG (c :: r)).len)) (by simp; omega)
              have e1 : lx (c :: r ++ 10 :: b) p = (lx ((c :: r).drop (tokG (c :: r)).len ++ 10 :: b) (advL p ((c :: r).take (tokG (c :: r)).len))).map (fun ts => ⟨(tokG (c :: r)).kind, (tokG (c :: r)).text, (tokG (c :: r)).n, p.1, p.2⟩ :: ts) := by
                rw [List.cons_append] at hd hk ⊢
                rw [lx_tok hga (by rw [ht]; exact he), ht, hd, hk]
              have e2 : lx (c :: r ++ [10]) p = (lx ((c :: r).drop (tokG (c :: r)).len ++ [10]) (advL p ((c :: r).take (tokG (c :: r)).len))).map (fun ts => ⟨(tokG (c :: r)).kind, (tokG (c :: r)).text, (tokG (c :: r)).n, p.1, p.2⟩ :: ts) := by
                rw [List.cons_append] at hdn hkn ⊢
                rw [lx_tok hgn (by rw [htn]; exact he), htn, hdn, hkn]
              have ea : advL (advL p ((c :: r).take (tokG (c :: r)).len)) ((c :: r).drop (tokG (c :: r)).len) = advL p (c :: r) := by rw [← advL_append, List.take_append_drop]
              rw [lx_tok hg he]
              cases hx : lx ((c :: r).drop (tokG (c :: r)).len) (advL p ((c :: r).take (tokG (c :: r)).len)) with
              | error d =>
                rw [hx] at hi
                refine ⟨fun h => ?_, fun h => ?_⟩
                · rw [e1, hi.1 h]; rfl
                · rw [e2, hi.2 h]; rfl
              | ok ts =>
                rw [hx] at hi
                obtain ⟨fr, rfl, h2⟩ := hi
                rw [ea] at h2 ⊢
                refine ⟨_ :: fr, rfl, ?_⟩
                rw [e1, h2]
                cases lx (10 :: b) (advL p (c :: r)) <;> simp [Except.map]
            · rw [lx_bad hg he]
              have h14 : (tokG (c :: r)).err ≠ 14 := by
                rcases err_of c r with h | h | h | h <;> omega
              refine ⟨fun _ => ?_, fun h => absurd h h14⟩
              rw [List.cons_append, lx_bad hga (by rw [ht]; exact he), ht]
        | succ g =>
          have hle := gap_le r _ hg
          have hd := drop_app (r := r) (s := 10 :: b) hle
          have hk := take_app (r := r) (s := 10 :: b) hle
          have hdn := drop_app (r := r) (s := [10]) hle
          have hkn := take_app (r := r) (s := [10]) hle
          have hi := ih (r.drop (g + 1)) (advL p (r.take (g + 1))) (by simp; omega)
          have ea : advL (advL p (r.take (g + 1))) (r.drop (g + 1)) = advL p r := by rw [← advL_append, List.take_append_drop]
          rw [lx_gap hg]
          cases hx : lx (r.drop (g + 1)) (advL p (r.take (g + 1))) with
          | error d =>
            rw [hx] at hi
            refine ⟨fun h => ?_, fun h => ?_⟩
            · rw [lx_gap hga, hd, hk]; exact hi.1 h
            · rw [lx_gap hgn, hdn, hkn]; exact hi.2 h
          | ok ts =>
            rw [hx] at hi
            obtain ⟨fr, h1, h2⟩ := hi
            rw [ea] at h1 h2
            exact ⟨fr, h1, by rw [lx_gap hga, hd, hk]; exact h2⟩

theorem lx_nl (b : List UInt8) (p : Nat × Nat) : lx (10 :: b) p = lx b (p.1 + 1, 1) := lx_space [10] b p rfl

theorem lx_ne (n : Nat) : ∀ (r : List UInt8) (p : Nat × Nat) (ts : List Tk), r.length ≤ n → lx r p = .ok ts → ∃ fr, ts = fr ++ [⟨9, [], 0, (advL p r).1, (advL p r).2⟩] := by
  intro r p ts hn h
  have := lx_join [] n r p hn
  rw [h] at this
  obtain ⟨fr, h1, _⟩ := this
  exact ⟨fr, h1⟩
end Go.Proofs.Ytbjbmehkcfpahaa
