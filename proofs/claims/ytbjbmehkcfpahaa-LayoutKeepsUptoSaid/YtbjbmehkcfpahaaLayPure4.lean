/- What is laid, place by place: which token of the input stands where. Plain lists; nothing of the program. -/
import Derived.Test.YtbjbmehkcfpahaaLayPure2
namespace Go.Proofs.Ytbjbmehkcfpahaa
namespace Lx

theorem filter_at {α : Type} (q : α → Bool) (p : List α) (i : Nat) (h : i < p.length) (hq : q p[i] = true) : (p.filter q)[((p.take i).filter q).length]? = some p[i] := by
  have e : p.filter q = (p.take i).filter q ++ p[i] :: (p.drop (i + 1)).filter q := by
    have h1 : p = p.take i ++ p.drop i := (List.take_append_drop i p).symm
    have h2 : p.drop i = p[i] :: p.drop (i + 1) := List.drop_eq_getElem_cons h
    have h3 : p.filter q = (p.take i ++ p[i] :: p.drop (i + 1)).filter q := by rw [← h2, ← h1]
    rw [h3, List.filter_append, List.filter_cons_of_pos hq]
  rw [e, List.getElem?_append_right (Nat.le_refl _)]
  simp
theorem split_get : ∀ (ts : List Rt) (last : Option Rt) (i : Nat) (t : Rt), (splitL last ts).1[i]? = some t → ts[i]? = some t
  | [], _, _, _, h => by simp [splitL] at h
  | x :: ts, last, i, t, h => by
    rw [splitL] at h
    split at h
    · simp at h
    · cases i with
      | zero => simpa using h
      | succ i => simp only [List.getElem?_cons_succ] at h ⊢; exact split_get ts (some x) i t h
theorem split_end : ∀ (ts : List Rt) (last : Option Rt) (t : Rt), ts[(splitL last ts).1.length]? = some t → t = (splitL last ts).2
  | [], _, _, h => by simp at h
  | x :: ts, last, t, h => by
    rw [splitL] at h ⊢
    split at h
    · rename_i h9
      rw [if_pos h9]
      simp at h
      exact h.symm
    · rename_i h9
      rw [if_neg h9]
      simp only [List.length_cons, List.getElem?_cons_succ] at h ⊢
      exact split_end ts (some x) t h

theorem bal_le : ∀ (o : List Rt) (k m : Int), 0 ≤ k → balL k o = some m → 0 ≤ m ∧ m ≤ k + o.length
  | [], k, m, h0, h => by simp [balL] at h; subst h; simp; exact h0
  | t :: o, k, m, h0, h => by
    simp only [balL] at h
    simp only [List.length_cons]
    split at h
    · split at h
      · have := bal_le o _ m (by omega) h; omega
      · split at h
        · split at h
          · cases h
          · have := bal_le o _ m (by omega) h; omega
        · have := bal_le o _ m h0 h; omega
    · have := bal_le o _ m h0 h; omega
theorem bal_take : ∀ (o p : List Rt) (k m : Int), balL k (o ++ p) = some m → ∃ j, balL k o = some j
  | [], p, k, m, h => ⟨k, rfl⟩
  | t :: o, p, k, m, h => by
    simp only [List.cons_append, balL] at h ⊢
    split
    · rename_i h1
      rw [if_pos h1] at h
      split
      · rename_i h2
        rw [if_pos h2] at h
        exact bal_take o p _ m h
      · rename_i h2
        rw [if_neg h2] at h
        split
        · rename_i h3
          rw [if_pos h3] at h
          split
          · rename_i h4
            rw [if_pos h4] at h
            cases h
          · rename_i h4
            rw [if_neg h4] at h
            exact bal_take o p _ m h
        · rename_i h3
          rw [if_neg h3] at h
          exact bal_take o p _ m h
    · rename_i h1
      rw [if_neg h1] at h
      exact bal_take o p _ m h

/-- What counts as a token of the input. -/
def inpB (t : Rt) : Bool := notIns t && !(t.kind == 9)
/-- How many tokens of the input stand in a list. -/
def cntL (l : List Rt) : Nat := (l.filter inpB).length
theorem cnt_snoc (l : List Rt) (x : Rt) : cntL (l ++ [x]) = cntL l + (if inpB x then 1 else 0) := by
  unfold cntL
  rw [List.filter_append]
  cases h : inpB x <;> simp [h]

/-- What the law asks, place by place. -/
structure Kept (ts o : List Rt) : Prop where
  laid : ∀ (i : Nat) (h : i < o.length), o[i].n = 1 → o[i].kind = 8 ∧ (o[i].text = [123] ∨ o[i].text = [125] ∨ o[i].text = [59])
  last : ∀ (i : Nat) (h : i < o.length), o[i].n ≠ 1 → o[i].kind = 9 → i + 1 = o.length ∧ ∀ t, ts[cntL (o.take i)]? = some t → t = o[i]
  mine : ∀ (i : Nat) (h : i < o.length), o[i].n ≠ 1 → o[i].kind ≠ 9 → ts[cntL (o.take i)]? = some o[i]
  ends : ∃ h : 0 < o.length, (o[o.length - 1]'(by omega)).kind = 9
  rest : ∀ t, ts[cntL o]? = some t → t.kind = 9
  bal : ∀ i, i ≤ o.length → ∃ m, balL 0 (o.take i) = some m
  all : ∀ m, balL 0 o = some m → (ts.any fun t => t.text == [123]) = false → m = 0
  again : layL o = .ok o

theorem kept_of (ts o : List Rt) (hn : ∀ t ∈ ts, t.n = 0) (h : layL ts = .ok o) : Kept ts o := by
  obtain ⟨p, rfl, hf, hm, ⟨m, hb, hb0⟩, ha⟩ := lay_keeps ts o hn h
  obtain ⟨k1, k2⟩ := split_kind ts none
  have k3 := split_n ts hn none
  have hin : ∀ t ∈ (splitL none ts).1, t.n = 0 := fun t ht => hn t (split_mem ts none t ht)
  have hpn : ∀ x ∈ p, notIns x = inpB x := fun x hx => by
    unfold inpB
    rcases hm x hx with h1 | h1
    · simp only [insB, Bool.and_eq_true, beq_iff_eq] at h1
      simp [h1.1.2]
    · have := k1 x h1
      simp [this]
  have hfe : p.filter inpB = (splitL none ts).1 := by
    rw [← hf]
    exact List.filter_congr fun x hx => (hpn x hx).symm
  have hp9 : ∀ x ∈ p, x.kind ≠ 9 := fun x hx => by
    rcases hm x hx with h1 | h1
    · simp only [insB, Bool.and_eq_true, beq_iff_eq] at h1
      omega
    · exact k1 x h1
  have hgl : ∀ (i : Nat) (hi : i < p.length), (p ++ [(splitL none ts).2])[i]'(by simp; omega) = p[i] := fun i hi => List.getElem_append_left hi
  have hge : ∀ (i : Nat) (hi : i < (p ++ [(splitL none ts).2]).length), i = p.length → (p ++ [(splitL none ts).2])[i] = (splitL none ts).2 := fun i hi he => by subst he; simp
  have htk : ∀ i, i ≤ p.length → (p ++ [(splitL none ts).2]).take i = p.take i := fun i hi => List.take_append_of_le_length hi
  have hcp : cntL p = (splitL none ts).1.length := by unfold cntL; rw [hfe]
  constructor
  · intro i hi h1
    by_cases hip : i < p.length
    · rw [hgl i hip] at h1 ⊢
      rcases hm p[i] (List.getElem_mem hip) with h2 | h2
      · simp only [insB, Bool.and_eq_true, Bool.or_eq_true, beq_iff_eq] at h2
        refine ⟨h2.1.2, ?_⟩
        rcases h2.2 with (h | h) | h
        · exact .inl h
        · exact .inr (.inl h)
        · exact .inr (.inr h)
      · have := hin _ h2; omega
    · rw [hge i hi (by simp at hi; omega)] at h1
      omega
  · intro i hi h1 h9
    by_cases hip : i < p.length
    · rw [hgl i hip] at h9
      exact absurd h9 (hp9 _ (List.getElem_mem hip))
    · have hie : i = p.length := by simp at hi; omega
      refine ⟨by simp [hie], fun t ht => ?_⟩
      rw [hge i hi hie]
      rw [htk i (by omega), hie, List.take_length, hcp] at ht
      exact split_end ts none t ht
  · intro i hi h1 h9
    by_cases hip : i < p.length
    · rw [hgl i hip] at h1 h9 ⊢
      rw [htk i (by omega)]
      have hq : inpB p[i] = true := by simp [inpB, notIns, h1, h9]
      have := filter_at inpB p i hip hq
      rw [hfe] at this
      exact split_get ts none _ _ this
    · rw [hge i hi (by simp at hi; omega)] at h9
      exact absurd k2 h9
  · refine ⟨by simp, ?_⟩
    rw [hge _ (by simp) (by simp)]
    exact k2
  · intro t ht
    have hc : cntL (p ++ [(splitL none ts).2]) = (splitL none ts).1.length := by
      rw [cnt_snoc, hcp, show inpB (splitL none ts).2 = false by simp [inpB, k2]]
      simp
    rw [hc] at ht
    rw [split_end ts none t ht]
    exact k2
  · intro i hi
    have := hb
    rw [← List.take_append_drop i (p ++ [(splitL none ts).2])] at this
    exact bal_take _ _ _ _ this
  · intro m' hm' hno
    rw [hb] at hm'
    injection hm' with hm'
    subst hm'
    refine hb0 fun t ht he => ?_
    rw [List.any_eq_false] at hno
    exact hno t ht (by simp [he])
  · exact ha
end Lx
end Go.Proofs.Ytbjbmehkcfpahaa
