/- Whatever is laid stands in a column that a token of the input has. Plain lists; nothing of the program. -/
import Derived.Test.YtbjbmehkcfpahaaLayPure
namespace Go.Proofs.Ytbjbmehkcfpahaa
namespace Lx

theorem col_ln (t : Rt) (col : Int) : ∀ (k : Nat) (rs r : List En) (o : List Rt), lnL t col k rs = some (r, o) → ∀ x ∈ o, x.col = t.col
  | 0, _, _, _, h => by simp [lnL] at h
  | k + 1, rs, r, o, h => by
    rw [lnL] at h
    cases hc : curC rs with
    | none => rw [hc] at h; simp at h; obtain ⟨_, rfl⟩ := h; simp
    | some c =>
      rw [hc] at h
      simp only at h
      split at h
      · simp at h; obtain ⟨_, rfl⟩ := h; simp
      · split at h
        · split at h
          · simp at h
            obtain ⟨_, rfl⟩ := h
            simp [insT]
          · cases hl : lnL t col k (curR rs) with
            | none => rw [hl] at h; cases h
            | some y =>
              obtain ⟨r1, o1⟩ := y
              rw [hl] at h
              simp at h
              obtain ⟨rfl, rfl⟩ := h
              intro x hx
              rcases List.mem_cons.1 hx with rfl | hx
              · rfl
              · exact col_ln t col k _ _ _ hl x hx
        · cases h
theorem col_close (t : Rt) (rs : List En) : ∀ x ∈ (closeL t rs).2, x.col = t.col := by
  unfold closeL
  cases topE (if t.text == [105, 110] then En.isBlk else En.loose) rs 0 with
  | none => simp
  | some y =>
    obtain ⟨n, e, r⟩ := y
    simp only
    split
    · intro x hx
      have := List.eq_of_mem_replicate hx
      rw [this]; rfl
    · simp
theorem col_end (t : Rt) (rs : List En) : ∀ x ∈ (endL t rs).2, x.col = t.col := by
  unfold endL
  split
  · exact col_close t rs
  · simp
theorem col_begin (t : Rt) (col : Int) (rs : List En) : ∀ x ∈ (beginL t col rs).2.2, x.col = t.col := by
  unfold beginL
  split <;> simp [insT]
theorem col_tok (t : Rt) (first opened : Bool) (rs r : List En) (o : List Rt) (h : tokL t first opened rs = some (r, o)) : ∀ x ∈ o, x.col = t.col := by
  unfold tokL at h
  split at h
  · simp at h; obtain ⟨_, rfl⟩ := h; simp
  · simp only at h
    have hb : ∀ x ∈ (if opened = true then beginL t t.col rs else (false, rs, [])).2.2, x.col = t.col := by
      split
      · exact col_begin t _ rs
      · simp
    generalize (if opened = true then beginL t t.col rs else (false, rs, [])) = b at h hb
    cases hl : (if (first && !b.1) = true then lnL t t.col (rs.length + 1) b.2.1 else some (b.2.1, [])) with
    | none => rw [hl] at h; cases h
    | some y =>
      obtain ⟨r2, o2⟩ := y
      rw [hl] at h
      simp only [Option.some.injEq, Prod.mk.injEq] at h
      obtain ⟨_, rfl⟩ := h
      have h2 : ∀ x ∈ o2, x.col = t.col := by
        split at hl
        · exact col_ln t _ _ _ _ _ hl
        · simp at hl; obtain ⟨_, rfl⟩ := hl; simp
      intro x hx
      simp only [List.mem_append, List.mem_singleton] at hx
      rcases hx with ((hx | hx) | hx) | rfl
      · exact hb x hx
      · exact h2 x hx
      · exact col_end t r2 x hx
      · rfl
theorem col_go : ∀ (is : List Rt) (prev : Option Rt) (rs : List En), match goL prev is rs with | .error t => t ∈ is | .ok (_, o) => ∀ x ∈ o, ∃ t ∈ is, x.col = t.col
  | [], _, rs => by simp [goL]
  | t :: is, prev, rs => by
    rw [goL]
    cases ht : tokL t (firstB prev t) (openedB prev) rs with
    | none => simp
    | some y =>
      obtain ⟨r, o⟩ := y
      simp only
      have ih := col_go is (some t) r
      cases hg : goL (some t) is r with
      | error e => rw [hg] at ih; simp only at ih ⊢; simp [ih]
      | ok z =>
        obtain ⟨r', o'⟩ := z
        rw [hg] at ih
        simp only at ih ⊢
        intro x hx
        rcases List.mem_append.1 hx with hx | hx
        · exact ⟨t, by simp, col_tok t _ _ rs r o ht x hx⟩
        · obtain ⟨s, hs, he⟩ := ih x hx
          exact ⟨s, by simp [hs], he⟩
theorem col_fin (e : Rt) (opened : Bool) (rs : List En) (o : List Rt) (h : finL e opened rs = some o) : ∀ x ∈ o, x.col = e.col := by
  unfold finL at h
  simp only at h
  have hb : ∀ x ∈ (if opened = true then beginL e 0 rs else (false, rs, [])).2.2, x.col = e.col := by
    split
    · exact col_begin e _ rs
    · simp
  generalize (if opened = true then beginL e 0 rs else (false, rs, [])) = b at h hb
  cases hl : lnL e 0 (rs.length + 2) b.2.1 with
  | none => rw [hl] at h; cases h
  | some y =>
    obtain ⟨r2, o2⟩ := y
    rw [hl] at h
    simp only [Option.some.injEq] at h
    subst h
    intro x hx
    simp only [List.mem_append, List.mem_singleton] at hx
    rcases hx with (hx | hx) | rfl
    · exact hb x hx
    · exact col_ln e _ _ _ _ _ hl x hx
    · rfl
theorem col_split : ∀ (ts : List Rt) (last : Option Rt), (∃ t ∈ ts, (splitL last ts).2.col = t.col) ∨ (splitL last ts).2 = endT last
  | [], _ => .inr rfl
  | t :: ts, last => by
    rw [splitL]
    split
    · exact .inl ⟨t, by simp, rfl⟩
    · simp only
      rcases col_split ts (some t) with ⟨s, hs, he⟩ | he
      · exact .inl ⟨s, by simp [hs], he⟩
      · exact .inl ⟨t, by simp, by rw [he]; rfl⟩
theorem col_split0 (ts : List Rt) (h0 : ts ≠ []) : ∃ t ∈ ts, (splitL none ts).2.col = t.col := by
  cases ts with
  | nil => exact absurd rfl h0
  | cons t ts =>
    rw [splitL]
    split
    · exact ⟨t, by simp, rfl⟩
    · simp only
      rcases col_split ts (some t) with ⟨s, hs, he⟩ | he
      · exact ⟨s, by simp [hs], he⟩
      · exact ⟨t, by simp, by rw [he]; rfl⟩
theorem lay_cols (ts : List Rt) (h0 : ts ≠ []) : match layL ts with | .error t => ∃ s ∈ ts, t.col = s.col | .ok o => ∀ x ∈ o, ∃ s ∈ ts, x.col = s.col := by
  unfold layL
  have hg := col_go (splitL none ts).1 none []
  cases hx : goL none (splitL none ts).1 [] with
  | error t => rw [hx] at hg; exact ⟨t, split_mem ts none t hg, rfl⟩
  | ok y =>
    obtain ⟨rs, o⟩ := y
    rw [hx] at hg
    simp only at hg ⊢
    cases hf : finL (splitL none ts).2 (openedB (splitL none ts).1.getLast?) rs with
    | none => exact col_split0 ts h0
    | some o' =>
      intro x hx
      rcases List.mem_append.1 hx with hx | hx
      · obtain ⟨s, hs, he⟩ := hg x hx
        exact ⟨s, split_mem ts none s hs, he⟩
      · obtain ⟨s, hs, he⟩ := col_split0 ts h0
        exact ⟨s, hs, (col_fin _ _ _ _ hf x hx).trans he⟩
end Lx
end Go.Proofs.Ytbjbmehkcfpahaa
