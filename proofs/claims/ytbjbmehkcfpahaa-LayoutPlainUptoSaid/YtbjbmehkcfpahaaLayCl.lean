/- The contract of the object's close: what a closer ends. No condition but bounds on what is open and laid. -/
import Derived.Test.YtbjbmehkcfpahaaLayLine
namespace Go.Proofs.Ytbjbmehkcfpahaa
open Go.RowKit Lx
attribute [local go_sem] bt_size bt_get bt_list bt_toList bt_drop bt_take fld0 fld1 fld2
attribute [local go_sem ↓] Go.wp_at_zero Go.wp_at_succ

/-- Where the topmost entry lies that is not passed over. -/
def rcP (p : En → Bool) : List En → Int
  | [] => -1
  | e :: r => if p e then rcP p r else r.length
theorem rcF_eq : ∀ rs, rcF rs = rcP En.loose rs
  | [] => rfl
  | e :: r => by simp only [rcF, rcP, rcF_eq r]
theorem rcO_eq : ∀ rs, rcO rs = rcP En.isBlk rs
  | [] => rfl
  | e :: r => by simp only [rcO, rcP, rcO_eq r]
def nBlk (es : List En) : Nat := (es.filter En.isBlk).length
theorem nBlk_rev (es : List En) : nBlk es.reverse = nBlk es := by simp [nBlk, List.filter_reverse]
theorem nBlk_snoc (es : List En) (k : Nat) (h : k < es.length) : nBlk (es.take (k + 1)) = nBlk (es.take k) + if es[k].isBlk then 1 else 0 := by
  rw [List.take_succ_eq_append_getElem h, nBlk, List.filter_append, List.length_append, nBlk]
  congr 1
  cases hb : es[k].isBlk <;> simp [hb]
theorem topE_none (p : En → Bool) : ∀ (rs : List En) (k : Nat), topE p rs k = none → rcP p rs = -1
  | [], _, _ => rfl
  | e :: r, k, h => by
    rw [topE] at h
    rw [rcP]
    split at h
    · rename_i hp
      rw [if_pos hp]
      exact topE_none p r _ h
    · cases h
theorem topE_some (p : En → Bool) : ∀ (rs : List En) (k n : Nat) (e : En) (r : List En), topE p rs k = some (n, e, r) → ∃ ab, rs = ab ++ e :: r ∧ n = k + nBlk ab ∧ rcP p rs = r.length
  | [], _, _, _, _, h => by simp [topE] at h
  | x :: rs, k, n, e, r, h => by
    rw [topE] at h
    rw [rcP]
    split at h
    · rename_i hp
      obtain ⟨ab, h1, h2, h3⟩ := topE_some p rs _ n e r h
      refine ⟨x :: ab, by rw [h1]; rfl, ?_, by rw [if_pos hp, h3]⟩
      rw [h2, nBlk, nBlk]
      cases hb : x.isBlk <;> simp [hb] <;> omega
    · rename_i hp
      simp at h
      obtain ⟨rfl, rfl, rfl⟩ := h
      exact ⟨[], rfl, by simp [nBlk], by rw [if_neg hp]⟩
theorem clo_one {t : Rt} (h : cloB t = true) : oneB (cloS ++ cloW) t.text = true := by
  simp only [cloB, signT, wordT, Bool.or_eq_true, Bool.and_eq_true] at h
  simp only [oneB, List.contains_append, Bool.or_eq_true] at h ⊢
  rcases h with h | h
  · exact .inl h.2
  · exact .inr h.2

theorem insert_eg (w : World) (s : St) (rs : List En) (out : List Rt) (x : List UInt8) (t : Rt) (g : Nat) (hg : s.g = g) (h : LayAt w s rs out) (hn : out.length ≤ 10000000) :
    Calls Try.prog 91 #[.pointer (some ⟨g, 0, none⟩), .string (bt x), tokV t] w fun e w' => LPostE s w rs (out ++ [insT x t]) (.returned (.tuple #[])) e w' := by
  subst hg; exact insert_e w s rs out x t h hn

/-- At the head of each round of close's loop. -/
def CloseRel (s : St) (w : World) (b : Nat) (t : Rt) (ve : Value) (g : Nat) (ab rs : List En) (out : List Rt) (i : Value) (wr : World) : Prop :=
  ∃ (k : Nat) (s1 : St), k ≤ ab.length ∧ i = .int .i64 k ∧ s1.ve = ve ∧ s1.g = g ∧ LayAt wr s1 rs (out ++ List.replicate (nBlk (ab.reverse.take k)) (insT [125] t)) ∧ Step s s1 w wr ∧ BX s1 wr b t

theorem nBlk_le (es : List En) : nBlk es ≤ es.length := List.length_filter_le _ _
theorem box_al {w : World} (e : En) : (w.alloc (boxE e)).cell? ⟨w.heap.size, 0, none⟩ = some (.int .i64 (enS e)) ∧ (w.alloc (boxE e)).cell? ⟨w.heap.size, 1, none⟩ = some (.int .i64 (enC e)) ∧ (w.alloc (boxE e)).cell? ⟨w.heap.size, 2, none⟩ = some (.string (bt (enK e))) := enAt_new w e
end Go.Proofs.Ytbjbmehkcfpahaa
