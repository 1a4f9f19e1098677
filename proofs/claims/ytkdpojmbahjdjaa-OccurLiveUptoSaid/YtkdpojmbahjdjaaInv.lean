/- A region that draws its order, by an invariant over which of its operations have come. No condition. -/
import Derived.StillTail
import Derived.StillTactics
import Derived.WalkKit
namespace Go.Proofs.Ytkdpojmbahjdjaa
open Go

section
variable {P : Program} {ops : Array Oper} {md : Region.Mode} {Q : Exit → Act → World → Prop}

theorem un_pos {listed : Array Bool} {i : Nat} (h : listed.getD i true = false) : 0 < listed.toList.countP (fun b => !b) := by
  have hi : i < listed.size := by
    rcases Nat.lt_or_ge i listed.size with h' | h'
    · exact h'
    · simp [Array.getElem?_eq_none h'] at h
  refine List.countP_pos_iff.2 ⟨false, ?_, rfl⟩
  have : listed[i] = false := by simpa [hi] using h
  rw [← this]
  exact Array.getElem_mem_toList hi
theorem un_set {listed : Array Bool} {i : Nat} (h : listed.getD i true = false) : (listed.setIfInBounds i true).toList.countP (fun b => !b) = listed.toList.countP (fun b => !b) - 1 := by
  have hi : i < listed.size := by
    rcases Nat.lt_or_ge i listed.size with h' | h'
    · exact h'
    · simp [Array.getElem?_eq_none h'] at h
  have hf : listed[i] = false := by simpa [hi] using h
  have hi' : i < listed.toList.length := by simpa using hi
  rw [Array.toList_setIfInBounds, List.countP_set hi']
  simp [hf]

theorem any_inv (Inv : Array Bool → Act → World → Prop)
    (hstep : ∀ listed a w i, Inv listed a w → i ∈ Region.ready md ops listed → wpOp P ops Q i (fun a' w' => Inv (listed.setIfInBounds i true) a' w') a w)
    (hend : ∀ listed a w, Inv listed a w → Region.ready md ops listed = [] → Q .normal a w) :
    ∀ (fuel : Nat) (listed : Array Bool) (a : Act) (w : World), listed.toList.countP (fun b => !b) ≤ fuel → Inv listed a w → wpAny P md ops Q fuel listed a w
  | 0, listed, a, w, hc, hI => by
    have hr : Region.ready md ops listed = [] := by
      rcases hx : Region.ready md ops listed with _ | ⟨i, r⟩
      · rfl
      · have hm : i ∈ Region.ready md ops listed := by rw [hx]; simp
        have := un_pos (mem_ready.1 hm).1
        omega
    exact ⟨hr, hend _ _ _ hI hr⟩
  | fuel + 1, listed, a, w, hc, hI => ⟨fun hr => hend _ _ _ hI hr, fun i hi => wpOp_mono (fun a' w' h => any_inv Inv hstep hend fuel _ a' w' (by
      have h1 := (mem_ready.1 hi).1
      have := un_pos h1
      rw [un_set h1]
      omega) h) (hstep _ _ _ _ hI hi)⟩

theorem region_inv {id : Nat} {l : List Oper} {a : Act} {w : World} (Inv : Array Bool → Act → World → Prop) (hm : P.follows .mixedOrders = true) (h0 : Inv (Array.replicate l.length false) a w.drew)
    (hstep : ∀ listed a w i, Inv listed a w → i ∈ Region.ready .any l.toArray listed → wpOp P l.toArray Q i (fun a' w' => Inv (listed.setIfInBounds i true) a' w') a w)
    (hend : ∀ listed a w, Inv listed a w → Region.ready .any l.toArray listed = [] → Q .normal a w) : (Code.region id l.toArray true).wp P Q a w := by
  refine wp_region_any hm (any_inv Inv hstep hend _ _ _ _ ?_ (by simpa using h0))
  have := List.countP_le_length (p := fun b : Bool => !b) (l := (Array.replicate l.toArray.size false).toList)
  simpa using this

theorem op_want {i : Nat} {K : Act → World → Prop} {a : Act} {w : World} {o : Oper} (ho : ops[i]? = some o) (hw : Region.wanted o (yielded ops a.tmps) = true) (h : ∀ K' : Act → World → Prop, (∀ a2 w2, K a2 w2 → K' a2 w2) → o.wp P a w K' Q) : wpOp P ops Q i K a w := by
  unfold wpOp
  simp only [ho, hw, if_true]
  exact .inl (h K fun _ _ h => h)
/-- What has come, behind one more. -/
theorem listed_set {listed : Array Bool} {i k : Nat} (h : listed.getD i true = false) : (listed.setIfInBounds i true).getD k false = (decide (k = i) || listed.getD k false) := by
  by_cases hk : k = i
  · subst hk
    have hi : k < listed.size := by
      rcases Nat.lt_or_ge k listed.size with h' | h'
      · exact h'
      · simp [Array.getElem?_eq_none h'] at h
    simp [hi]
  · rw [getD_set_ne false (Ne.symm hk)]
    simp [hk]
/-- An operation that waits for none but such as have come has come, where none is ready. -/
theorem all_come {listed : Array Bool} {i : Nat} {o : Oper} (hr : Region.ready md ops listed = []) (ho : ops[i]? = some o) (hd : ∀ e ∈ o.after, listed.getD e.on false = true) (hi : i < listed.size) : listed.getD i false = true := by
  cases hx : listed.getD i false with
  | true => rfl
  | false =>
    have hm : i ∈ Region.ready md ops listed := mem_ready.2 ⟨getD_in hi hx, o, ho, fun e he _ => hd e he⟩
    rw [hr] at hm
    cases hm
end
end Go.Proofs.Ytkdpojmbahjdjaa
