/- Plain laws of the layout rule: what is laid are braces and semicolons alone, in balance; what is laid once is laid as it is again. Nothing of the program. -/
import Derived.Test.YtbjbmehkcfpahaaLayPure
namespace Go.Proofs.Ytbjbmehkcfpahaa
namespace Lx

/-! Laying again -/
/-- No block lies on the stack. -/
def NoK (rs : List En) : Prop := ∀ e ∈ rs, e.isBlk = false
theorem noK_cur : ∀ (rs : List En), NoK rs → curC rs = none
  | [], _ => rfl
  | .blk c :: r, h => by have := h (.blk c) (by simp); simp [En.isBlk] at this
  | .brc :: r, _ => rfl
  | .mk m :: r, h => by simp only [curC]; exact noK_cur r (fun x hx => h x (by simp [hx]))
theorem noK_top (p : En → Bool) : ∀ (rs : List En) (n k : Nat) (e : En) (r : List En), NoK rs → topE p rs n = some (k, e, r) → k = n ∧ NoK (e :: r)
  | [], _, _, _, _, _, h => by simp [topE] at h
  | x :: rs, n, k, e, r, hb, h => by
    have hx := hb x (by simp)
    rw [topE] at h
    split at h
    · rw [hx] at h
      simp only [Bool.false_eq_true, if_false] at h
      exact noK_top p rs n k e r (fun y hy => hb y (by simp [hy])) h
    · simp at h
      obtain ⟨rfl, rfl, rfl⟩ := h
      exact ⟨rfl, hb⟩
theorem noK_close (t : Rt) (rs : List En) (h : NoK rs) : NoK (closeL t rs).1 ∧ (closeL t rs).2 = [] := by
  unfold closeL
  split
  · exact ⟨h, rfl⟩
  · rename_i n e r hx
    obtain ⟨rfl, hb⟩ := noK_top _ _ _ _ _ _ h hx
    split
    · refine ⟨?_, rfl⟩
      dsimp only
      split
      · exact hb
      · split
        · intro y hy
          rcases List.mem_cons.1 hy with rfl | hy
          · rfl
          · exact hb y (by simp [hy])
        · exact fun y hy => hb y (by simp [hy])
    · exact ⟨h, rfl⟩
theorem noK_end (t : Rt) (rs : List En) (h : NoK rs) : NoK (endL t rs).1 ∧ (endL t rs).2 = [] := by
  unfold endL
  split
  · exact noK_close t rs h
  · exact ⟨h, rfl⟩
theorem noK_ln (t : Rt) (col : Int) (k : Nat) (rs : List En) (h : NoK rs) : lnL t col (k + 1) rs = some (rs, []) := by
  rw [lnL, noK_cur rs h]
theorem noK_tok (t : Rt) (first opened : Bool) (rs : List En) (h : NoK rs) (ho : opened = true → curB t = true) : ∃ r, tokL t first opened rs = some (r, [t]) ∧ NoK r := by
  cases opened with
  | true =>
    refine ⟨.brc :: rs, by rw [tokL, if_pos (by simp [ho rfl])], fun e he => ?_⟩
    rcases List.mem_cons.1 he with rfl | he
    · rfl
    · exact h e he
  | false =>
    obtain ⟨h1, h2⟩ := noK_end t rs h
    refine ⟨mrkSt t (endL t rs).1, ?_, ?_⟩
    · unfold tokL
      simp only [Bool.false_and, Bool.false_eq_true, if_false, Bool.not_false, Bool.and_true]
      cases first with
      | true => simp [noK_ln t t.col rs.length rs h, h2]
      | false => simp [h2]
    · unfold mrkSt
      split
      · intro y hy
        rcases List.mem_cons.1 hy with rfl | hy
        · rfl
        · exact h1 y hy
      · exact h1
/-- Each opener is followed by a brace. -/
def folB : Bool → List Rt → Bool
  | op, [] => !op
  | op, x :: l => (!op || curB x) && folB (opnB x) l
theorem noK_go : ∀ (is : List Rt) (prev : Option Rt) (rs : List En), NoK rs → folB (openedB prev) is = true → ∃ r, goL prev is rs = .ok (r, is) ∧ NoK r
  | [], _, rs, h, _ => ⟨rs, rfl, h⟩
  | t :: is, prev, rs, h, hf => by
    simp only [folB, Bool.and_eq_true, Bool.or_eq_true, Bool.not_eq_true'] at hf
    obtain ⟨r1, h1, hb1⟩ := noK_tok t (firstB prev t) (openedB prev) rs h (fun e => by rcases hf.1 with hx | hx; rw [e] at hx; cases hx; exact hx)
    obtain ⟨r2, h2, hb2⟩ := noK_go is (some t) r1 hb1 hf.2
    refine ⟨r2, ?_, hb2⟩
    rw [goL, h1]
    simp only
    rw [h2]
    rfl
theorem fol_last : ∀ (is : List Rt) (op : Bool), folB op is = true → (match is.getLast? with | none => op | some t => opnB t) = false
  | [], op, h => by simpa [folB] using h
  | t :: is, op, h => by
    simp only [folB, Bool.and_eq_true] at h
    have := fol_last is (opnB t) h.2
    cases is with
    | nil => simpa using this
    | cons a l =>
      obtain ⟨z, hz⟩ : ∃ z, (a :: l).getLast? = some z := ⟨(a :: l).getLast (by simp), List.getLast?_eq_some_getLast _⟩
      rw [List.getLast?_cons_cons, hz]
      rw [hz] at this
      exact this
theorem split_snoc : ∀ (is : List Rt) (last : Option Rt) (e : Rt), (∀ t ∈ is, t.kind ≠ 9) → e.kind = 9 → splitL last (is ++ [e]) = (is, e)
  | [], last, e, _, he => by simp [splitL, he]
  | t :: is, last, e, h, he => by
    have ht : (t.kind == 9) = false := by simpa using h t (by simp)
    simp only [List.cons_append, splitL, ht, split_snoc is (some t) e (fun x hx => h x (by simp [hx])) he]
    rfl
/-- WHAT IS LAID ONCE IS LAID AS IT IS AGAIN. -/
theorem lay_again (os : List Rt) (e : Rt) (hk : ∀ t ∈ os, t.kind ≠ 9) (he : e.kind = 9) (hf : folB false os = true) : layL (os ++ [e]) = .ok (os ++ [e]) := by
  obtain ⟨r, h1, hb⟩ := noK_go os none [] (fun _ hx => by simp at hx) hf
  have ho : openedB os.getLast? = false := by
    have := fol_last os false hf
    cases hl : os.getLast? with
    | none => rfl
    | some t => rw [hl] at this; exact this
  unfold layL
  rw [split_snoc os none e hk he]
  simp only
  rw [h1]
  simp only
  rw [ho]
  have hfin : finL e false r = some [e] := by
    unfold finL
    simp only [Bool.false_eq_true, if_false]
    rw [noK_ln _ _ _ _ hb]
    rfl
  rw [hfin]

/-! What is laid -/
/-- A token that was laid: an opening brace, a closing one, a semicolon. -/
def insB (t : Rt) : Bool := (t.n == 1) && (t.kind == 8) && (t.text == [123] || t.text == [125] || t.text == [59])
/-- The blocks that are open, behind tokens that were laid; none where one is closed that is not open. -/
def balL : Int → List Rt → Option Int
  | k, [] => some k
  | k, t :: l => if t.n == 1 then (if t.text == [123] then balL (k + 1) l else if t.text == [125] then (if k - 1 < 0 then none else balL (k - 1) l) else balL k l) else balL k l
theorem bal_app : ∀ (o p : List Rt) (k m : Int), balL k o = some m → balL k (o ++ p) = balL m p
  | [], p, k, m, h => by simp [balL] at h; subst h; rfl
  | t :: o, p, k, m, h => by
    simp only [List.cons_append, balL] at h ⊢
    split
    · rename_i h1
      rw [if_pos h1] at h
      split
      · rename_i h2
        rw [if_pos h2] at h
        exact bal_app o p _ m h
      · rename_i h2
        rw [if_neg h2] at h
        split
        · rename_i h3
          rw [if_pos h3] at h
          split
          · rename_i h4
            rw [if_pos h4] at h
            cases h
          · rename_i h4
            rw [if_neg h4] at h
            exact bal_app o p _ m h
        · rename_i h3
          rw [if_neg h3] at h
          exact bal_app o p _ m h
    · rename_i h1
      rw [if_neg h1] at h
      exact bal_app o p _ m h
def nB (rs : List En) : Nat := (rs.filter En.isBlk).length
theorem nB_cons (e : En) (rs : List En) : nB (e :: rs) = (if e.isBlk then 1 else 0) + nB rs := by
  unfold nB
  cases h : e.isBlk <;> simp [h] <;> omega
theorem nB_cur : ∀ (rs : List En) (c : Int), curC rs = some c → nB rs = nB (curR rs) + 1
  | [], _, h => by simp [curC] at h
  | .blk d :: r, _, _ => by rw [nB_cons]; simp [En.isBlk, curR]; omega
  | .brc :: r, _, h => by simp [curC] at h
  | .mk m :: r, c, h => by
    have := nB_cur r c (by simpa [curC] using h)
    rw [nB_cons]
    simp [En.isBlk, curR]
    omega
/-- What is laid at a token, ahead of it. -/
def Seg (o : List Rt) : Prop := ∀ x ∈ o, insB x = true
theorem insB_ins (x : List UInt8) (t : Rt) (h : x = [123] ∨ x = [125] ∨ x = [59]) : insB (insT x t) = true := by
  rcases h with rfl | rfl | rfl <;> rfl
theorem bal_rep (t : Rt) : ∀ (n : Nat) (k : Int), (n : Int) ≤ k → balL k (List.replicate n (insT [125] t)) = some (k - n)
  | 0, k, _ => by simp [balL]
  | n + 1, k, h => by
    have e : balL k (List.replicate (n + 1) (insT [125] t)) = if k - 1 < 0 then none else balL (k - 1) (List.replicate n (insT [125] t)) := rfl
    rw [e, if_neg (by omega), bal_rep t n (k - 1) (by omega)]
    congr 1
    omega
theorem ln_bal (t : Rt) (col : Int) : ∀ (k : Nat) (rs r : List En) (o : List Rt), lnL t col k rs = some (r, o) → Seg o ∧ balL (nB rs) o = some (nB r : Int)
  | 0, _, _, _, h => by cases h
  | k + 1, rs, r, o, h => by
    rw [lnL] at h
    split at h
    · simp at h; obtain ⟨rfl, rfl⟩ := h; exact ⟨fun _ hx => by simp at hx, rfl⟩
    · rename_i c hc
      have hn := nB_cur rs c hc
      split at h
      · simp at h; obtain ⟨rfl, rfl⟩ := h; exact ⟨fun _ hx => by simp at hx, rfl⟩
      · split at h
        · split at h
          · simp at h
            obtain ⟨rfl, rfl⟩ := h
            refine ⟨fun x hx => by simp at hx; subst hx; rfl, ?_⟩
            show some ((nB rs : Nat) : Int) = _
            rw [hn, nB_cons]
            simp [En.isBlk]
            omega
          · split at h
            · cases h
            · rename_i r' o' hx
              simp at h
              obtain ⟨rfl, rfl⟩ := h
              obtain ⟨i1, i2⟩ := ln_bal t col k _ _ _ hx
              refine ⟨fun x hx => ?_, ?_⟩
              · rcases List.mem_cons.1 hx with rfl | hx
                · rfl
                · exact i1 x hx
              · show (if ((nB rs : Nat) : Int) - 1 < 0 then none else balL (((nB rs : Nat) : Int) - 1) o') = _
                rw [if_neg (by omega), show ((nB rs : Nat) : Int) - 1 = ((nB (curR rs) : Nat) : Int) from by omega]
                exact i2
        · cases h
theorem nB_top (p : En → Bool) (hp : ∀ e, p e = false → e.isBlk = false) : ∀ (rs : List En) (n k : Nat) (e : En) (r : List En), topE p rs n = some (k, e, r) → n ≤ k ∧ nB rs = (k - n) + nB r ∧ e.isBlk = false
  | [], _, _, _, _, h => by simp [topE] at h
  | x :: rs, n, k, e, r, h => by
    rw [topE] at h
    split at h
    · obtain ⟨h1, h2, h3⟩ := nB_top p hp rs _ k e r h
      rw [nB_cons]
      cases hx : x.isBlk with
      | true => rw [hx] at h1 h2; simp at h1 h2 ⊢; exact ⟨by omega, by omega, h3⟩
      | false => rw [hx] at h1 h2; simp at h1 h2 ⊢; exact ⟨by omega, by omega, h3⟩
    · rename_i hpe
      simp at h
      obtain ⟨rfl, rfl, rfl⟩ := h
      have he := hp x (by simpa using hpe)
      exact ⟨Nat.le_refl _, by rw [nB_cons, he]; simp, he⟩
theorem close_bal (t : Rt) (rs : List En) : Seg (closeL t rs).2 ∧ balL (nB rs) (closeL t rs).2 = some (nB (closeL t rs).1 : Int) := by
  unfold closeL
  split
  · exact ⟨fun _ hx => by simp at hx, rfl⟩
  · rename_i n e r hx
    obtain ⟨h1, h2, h3⟩ := nB_top _ (fun e he => by
      split at he
      · exact he
      · cases e with
        | blk c => simp [En.loose] at he
        | brc => rfl
        | mk m => rfl) _ _ _ _ _ hx
    split
    · refine ⟨fun y hy => by rw [List.eq_of_mem_replicate hy]; rfl, ?_⟩
      dsimp only
      rw [bal_rep t n _ (by omega)]
      congr 1
      split
      · rw [nB_cons, h3]; simp; omega
      · split
        · rw [nB_cons]; simp [En.isBlk]; omega
        · omega
    · exact ⟨fun _ hx => by simp at hx, rfl⟩
theorem end_bal (t : Rt) (rs : List En) : Seg (endL t rs).2 ∧ balL (nB rs) (endL t rs).2 = some (nB (endL t rs).1 : Int) := by
  unfold endL
  split
  · exact close_bal t rs
  · exact ⟨fun _ hx => by simp at hx, rfl⟩
theorem begin_bal (t : Rt) (col : Int) (rs : List En) : Seg (beginL t col rs).2.2 ∧ balL (nB rs) (beginL t col rs).2.2 = some (nB (beginL t col rs).2.1 : Int) := by
  unfold beginL
  split
  · refine ⟨fun x hx => by simp at hx; subst hx; rfl, ?_⟩
    show some (((nB rs : Nat) : Int) + 1) = _
    rw [nB_cons]
    simp [En.isBlk]
    omega
  · refine ⟨fun x hx => by simp at hx; rcases hx with rfl | rfl <;> rfl, ?_⟩
    show (if ((nB rs : Nat) : Int) + 1 - 1 < 0 then none else balL (((nB rs : Nat) : Int) + 1 - 1) []) = _
    rw [if_neg (by omega)]
    show some _ = some _
    congr 1
    dsimp only
    omega
theorem mark_nB (t : Rt) (rs : List En) : nB (mrkSt t rs) = nB rs := by
  unfold mrkSt
  split
  · rw [nB_cons]; simp [En.isBlk]
  · rfl

theorem begin_cur (t : Rt) (col : Int) (rs : List En) : ∃ x l, (beginL t col rs).2.2 = x :: l ∧ curB x = true := by
  unfold beginL
  split
  · exact ⟨_, _, rfl, rfl⟩
  · exact ⟨_, _, rfl, rfl⟩
theorem seg_app {o p : List Rt} (h : Seg o) (k : Seg p) : Seg (o ++ p) := fun x hx => by
  rcases List.mem_append.1 hx with hx | hx
  · exact h x hx
  · exact k x hx
theorem tok_seg (t : Rt) (first opened : Bool) (rs r : List En) (o : List Rt) (h : tokL t first opened rs = some (r, o)) :
    ∃ p, o = p ++ [t] ∧ Seg p ∧ balL (nB rs) p = some (nB r : Int) ∧ (opened = true → (p = [] ∧ curB t = true) ∨ ∃ x l, p = x :: l ∧ curB x = true) := by
  unfold tokL at h
  by_cases hc : (opened && curB t) = true
  · rw [if_pos hc] at h
    simp at h
    obtain ⟨rfl, rfl⟩ := h
    refine ⟨[], rfl, fun _ hx => by simp at hx, ?_, fun _ => .inl ⟨rfl, by simp at hc; exact hc.2⟩⟩
    rw [nB_cons]
    simp [En.isBlk, balL]
  · rw [if_neg hc] at h
    simp only at h
    have hbeg : Seg (if opened then beginL t t.col rs else (false, rs, [])).2.2 ∧ balL (nB rs) (if opened then beginL t t.col rs else (false, rs, [])).2.2 = some (nB (if opened then beginL t t.col rs else (false, rs, [])).2.1 : Int) ∧ (opened = true → ∃ x l, (if opened then beginL t t.col rs else (false, rs, [])).2.2 = x :: l ∧ curB x = true) := by
      cases opened
      · exact ⟨fun _ hx => by simp at hx, rfl, fun e => by cases e⟩
      · exact ⟨(begin_bal t t.col rs).1, (begin_bal t t.col rs).2, fun _ => begin_cur t t.col rs⟩
    revert hbeg h
    generalize (if opened then beginL t t.col rs else (false, rs, [])) = b
    intro h hbeg
    obtain ⟨b1, b2, b3⟩ := hbeg
    have hsec : ∀ r2 o2, (if (first && !b.1) = true then lnL t t.col (rs.length + 1) b.2.1 else some (b.2.1, [])) = some (r2, o2) → Seg o2 ∧ balL (nB b.2.1) o2 = some (nB r2 : Int) := by
      intro r2 o2 hx
      split at hx
      · exact ln_bal _ _ _ _ _ _ hx
      · simp at hx
        obtain ⟨rfl, rfl⟩ := hx
        exact ⟨fun _ hx => by simp at hx, rfl⟩
    split at h
    · cases h
    · rename_i r2 o2 hx
      obtain ⟨s1, s2⟩ := hsec r2 o2 hx
      obtain ⟨e1, e2⟩ := end_bal t r2
      simp at h
      obtain ⟨rfl, rfl⟩ := h
      refine ⟨b.2.2 ++ (o2 ++ (endL t r2).2), by simp, seg_app b1 (seg_app s1 e1), ?_, fun ho => ?_⟩
      · rw [bal_app _ _ _ _ b2, bal_app _ _ _ _ s2, e2, mark_nB]
      · obtain ⟨x, l, hb, hcx⟩ := b3 ho
        exact .inr ⟨x, l ++ (o2 ++ (endL t r2).2), by rw [hb]; rfl, hcx⟩
theorem seg_fol : ∀ (p : List Rt) (t : Rt) (rest : List Rt) (op : Bool), Seg p → (op = true → (p = [] ∧ curB t = true) ∨ ∃ x l, p = x :: l ∧ curB x = true) → folB op (p ++ t :: rest) = folB (opnB t) rest
  | [], t, rest, op, _, h => by
    simp only [List.nil_append, folB]
    cases op with
    | false => simp
    | true =>
      rcases h rfl with ⟨_, hc⟩ | ⟨x, l, hx, _⟩
      · simp [hc]
      · cases hx
  | x :: p, t, rest, op, hs, h => by
    have hx := hs x (by simp)
    have hno : opnB x = false := by
      simp only [insB, Bool.and_eq_true, beq_iff_eq] at hx
      simp [opnB, wordT, hx.1.2]
    simp only [List.cons_append, folB, hno]
    rw [seg_fol p t rest false (fun y hy => hs y (by simp [hy])) (fun e => by cases e)]
    cases op with
    | false => simp
    | true =>
      rcases h rfl with ⟨hx, _⟩ | ⟨y, l, hy, hcy⟩
      · cases hx
      · injection hy with h1 h2
        subst h1
        simp [hcy]
def lastP (prev : Option Rt) (is : List Rt) : Option Rt := match is.getLast? with
  | none => prev
  | some t => some t
theorem lastP_cons (prev : Option Rt) (t : Rt) (is : List Rt) : lastP prev (t :: is) = lastP (some t) is := by
  unfold lastP
  cases is with
  | nil => rfl
  | cons a l =>
    obtain ⟨z, hz⟩ : ∃ z, (a :: l).getLast? = some z := ⟨(a :: l).getLast (by simp), List.getLast?_eq_some_getLast _⟩
    rw [List.getLast?_cons_cons, hz]
def notIns (t : Rt) : Bool := !(t.n == 1)
theorem seg_filter (p : List Rt) (h : Seg p) : p.filter notIns = [] := by
  rw [List.filter_eq_nil_iff]
  intro x hx
  have := h x hx
  simp only [insB, Bool.and_eq_true] at this
  simp [notIns, this.1.1]
theorem go_seg : ∀ (is : List Rt) (prev : Option Rt) (rs r : List En) (o : List Rt), (∀ t ∈ is, t.n = 0) → goL prev is rs = .ok (r, o) →
    o.filter notIns = is ∧ balL (nB rs) o = some (nB r : Int) ∧ (∀ rest, folB (openedB prev) (o ++ rest) = folB (openedB (lastP prev is)) rest) ∧ ∀ x ∈ o, insB x = true ∨ x ∈ is
  | [], prev, rs, r, o, _, h => by
    simp [goL] at h
    obtain ⟨rfl, rfl⟩ := h
    exact ⟨rfl, rfl, fun _ => rfl, fun _ hx => by simp at hx⟩
  | t :: is, prev, rs, r, o, hn, h => by
    rw [goL] at h
    split at h
    · cases h
    · rename_i r1 o1 h1
      split at h
      · cases h
      · rename_i r2 o2 h2
        simp at h
        obtain ⟨rfl, rfl⟩ := h
        obtain ⟨p, rfl, s1, s2, s3⟩ := tok_seg _ _ _ _ _ _ h1
        obtain ⟨i1, i2, i3, i4⟩ := go_seg is (some t) r1 r2 o2 (fun x hx => hn x (by simp [hx])) h2
        have ht0 := hn t (by simp)
        refine ⟨?_, ?_, ?_, ?_⟩
        · rw [List.filter_append, List.filter_append, seg_filter p s1, i1]
          simp [notIns, ht0]
        · rw [List.append_assoc, bal_app _ _ _ _ s2]
          show (if (t.n == 1) = true then _ else balL _ o2) = _
          rw [ht0]
          exact i2
        · intro rest
          rw [List.append_assoc, List.append_assoc, List.singleton_append, seg_fol p t (o2 ++ rest) (openedB prev) s1 s3, lastP_cons]
          exact i3 rest
        · intro x hx
          rcases List.mem_append.1 hx with hx | hx
          · rcases List.mem_append.1 hx with hx | hx
            · exact .inl (s1 x hx)
            · simp at hx; exact .inr (by simp [hx])
          · rcases i4 x hx with hx | hx
            · exact .inl hx
            · exact .inr (by simp [hx])

/-! The end -/
theorem pos_begin' (t : Rt) (col : Int) (rs : List En) (h : PosB rs) : PosB (beginL t col rs).2.1 := by
  unfold beginL
  split
  · rename_i hx
    intro c hc
    rcases List.mem_cons.1 hc with hc | hc
    · injection hc with hc
      cases hcur : curC rs with
      | none => rw [hcur] at hx; simp at hx; omega
      | some d => have := pos_cur rs d h hcur; rw [hcur] at hx; simp at hx; omega
    · exact h c hc
  · exact h
theorem pos_ln (t : Rt) (col : Int) : ∀ (k : Nat) (rs r : List En) (o : List Rt), PosB rs → lnL t col k rs = some (r, o) → PosB r
  | 0, _, _, _, _, h => by cases h
  | k + 1, rs, r, o, hp, h => by
    rw [lnL] at h
    split at h
    · simp at h; rw [← h.1]; exact hp
    · rename_i c hc
      split at h
      · simp at h; rw [← h.1]; exact hp
      · split at h
        · split at h
          · simp at h
            rw [← h.1]
            intro d hd
            rcases List.mem_cons.1 hd with hd | hd
            · injection hd with hd; rw [hd]; exact pos_cur rs c hp hc
            · exact pos_curR rs hp d hd
          · split at h
            · cases h
            · rename_i r' o' hx
              simp at h
              rw [← h.1]
              exact pos_ln t col k _ _ _ (pos_curR rs hp) hx
        · cases h
theorem pos_tok (t : Rt) (first opened : Bool) (rs r : List En) (o : List Rt) (hp : PosB rs) (h : tokL t first opened rs = some (r, o)) : PosB r := by
  unfold tokL at h
  split at h
  · simp at h
    rw [← h.1]
    intro c hc
    rcases List.mem_cons.1 hc with hc | hc
    · cases hc
    · exact hp c hc
  · simp only at h
    have hb : PosB (if opened then beginL t t.col rs else (false, rs, [])).2.1 := by
      cases opened
      · exact hp
      · exact pos_begin' t t.col rs hp
    revert hb h
    generalize (if opened then beginL t t.col rs else (false, rs, [])) = b
    intro h hb
    split at h
    · cases h
    · rename_i r2 o2 hx
      have h2 : PosB r2 := by
        split at hx
        · exact pos_ln _ _ _ _ _ _ hb hx
        · simp at hx; rw [← hx.1]; exact hb
      simp at h
      rw [← h.1]
      exact pos_mark t _ (pos_end t r2 h2)
theorem pos_go : ∀ (is : List Rt) (prev : Option Rt) (rs r : List En) (o : List Rt), PosB rs → goL prev is rs = .ok (r, o) → PosB r
  | [], _, rs, r, o, hp, h => by simp [goL] at h; rw [← h.1]; exact hp
  | t :: is, prev, rs, r, o, hp, h => by
    rw [goL] at h
    split at h
    · cases h
    · rename_i r1 o1 h1
      split at h
      · cases h
      · rename_i r2 o2 h2
        simp at h
        rw [← h.1]
        exact pos_go is _ _ _ _ (pos_tok _ _ _ _ _ _ hp h1) h2
theorem ln_zero (e : Rt) : ∀ (k : Nat) (rs r : List En) (o : List Rt), PosB rs → lnL e 0 k rs = some (r, o) → curC r = none
  | 0, _, _, _, _, h => by cases h
  | k + 1, rs, r, o, hp, h => by
    rw [lnL] at h
    split at h
    · rename_i hc
      simp at h; rw [← h.1]; exact hc
    · rename_i c hc
      have hc1 := pos_cur rs c hp hc
      rw [if_neg (by simp; omega)] at h
      split at h
      · rw [if_neg (by simp; omega)] at h
        split at h
        · cases h
        · rename_i r' o' hx
          simp at h
          rw [← h.1]
          exact ln_zero e k _ _ _ (pos_curR rs hp) hx
      · cases h
/-- No braces lie on the stack. -/
def NoC (rs : List En) : Prop := En.brc ∉ rs
theorem noC_nB : ∀ (rs : List En), NoC rs → curC rs = none → nB rs = 0
  | [], _, _ => rfl
  | .blk c :: r, _, h => by simp [curC] at h
  | .brc :: r, h, _ => by simp [NoC] at h
  | .mk m :: r, h, hc => by
    rw [nB_cons]
    simp only [En.isBlk, Bool.false_eq_true, if_false, Nat.zero_add]
    exact noC_nB r (fun hx => h (by simp [hx])) (by simpa [curC] using hc)
theorem noC_curR : ∀ (rs : List En), NoC rs → NoC (curR rs)
  | [], h => h
  | .mk m :: r, h => noC_curR r (fun hx => h (by simp [hx]))
  | .blk d :: r, h => fun hx => h (by simp [curR] at hx; simp [hx])
  | .brc :: r, h => fun hx => h (by simp [curR] at hx; simp [hx])
theorem noC_ln (t : Rt) (col : Int) : ∀ (k : Nat) (rs r : List En) (o : List Rt), NoC rs → lnL t col k rs = some (r, o) → NoC r
  | 0, _, _, _, _, h => by cases h
  | k + 1, rs, r, o, hp, h => by
    rw [lnL] at h
    split at h
    · simp at h; rw [← h.1]; exact hp
    · split at h
      · simp at h; rw [← h.1]; exact hp
      · split at h
        · split at h
          · simp at h
            rw [← h.1]
            intro hd
            rcases List.mem_cons.1 hd with hd | hd
            · cases hd
            · exact noC_curR rs hp hd
          · split at h
            · cases h
            · rename_i r' o' hx
              simp at h
              rw [← h.1]
              exact noC_ln t col k _ _ _ (noC_curR rs hp) hx
        · cases h
theorem noC_close (t : Rt) (rs : List En) (h : NoC rs) : NoC (closeL t rs).1 := by
  unfold closeL
  split
  · exact h
  · rename_i n e r hx
    have hm := top_mem _ _ _ _ _ _ hx
    split
    · dsimp only
      split
      · exact fun hc => h (hm _ hc)
      · split
        · intro hc
          rcases List.mem_cons.1 hc with hc | hc
          · cases hc
          · exact h (hm _ (by simp [hc]))
        · exact fun hc => h (hm _ (by simp [hc]))
    · exact h
theorem noC_tok (t : Rt) (first opened : Bool) (rs r : List En) (o : List Rt) (ht : curB t = false) (hp : NoC rs) (h : tokL t first opened rs = some (r, o)) : NoC r := by
  unfold tokL at h
  rw [if_neg (by simp [ht])] at h
  simp only at h
  have hb : NoC (if opened then beginL t t.col rs else (false, rs, [])).2.1 := by
    cases opened
    · exact hp
    · unfold beginL
      simp only [if_true]
      split
      · intro hc
        rcases List.mem_cons.1 hc with hc | hc
        · cases hc
        · exact hp hc
      · exact hp
  revert hb h
  generalize (if opened then beginL t t.col rs else (false, rs, [])) = b
  intro h hb
  split at h
  · cases h
  · rename_i r2 o2 hx
    have h2 : NoC r2 := by
      split at hx
      · exact noC_ln _ _ _ _ _ _ hb hx
      · simp at hx; rw [← hx.1]; exact hb
    have h3 : NoC (endL t r2).1 := by
      unfold endL
      split
      · exact noC_close t r2 h2
      · exact h2
    simp at h
    rw [← h.1]
    unfold mrkSt
    split
    · intro hc
      rcases List.mem_cons.1 hc with hc | hc
      · cases hc
      · exact h3 hc
    · exact h3
theorem noC_go : ∀ (is : List Rt) (prev : Option Rt) (rs r : List En) (o : List Rt), (∀ t ∈ is, curB t = false) → NoC rs → goL prev is rs = .ok (r, o) → NoC r
  | [], _, rs, r, o, _, hp, h => by simp [goL] at h; rw [← h.1]; exact hp
  | t :: is, prev, rs, r, o, hb, hp, h => by
    rw [goL] at h
    split at h
    · cases h
    · rename_i r1 o1 h1
      split at h
      · cases h
      · rename_i r2 o2 h2
        simp at h
        rw [← h.1]
        exact noC_go is _ _ _ _ (fun x hx => hb x (by simp [hx])) (noC_tok _ _ _ _ _ _ (hb t (by simp)) hp h1) h2
theorem fin_seg (e : Rt) (opened : Bool) (rs : List En) (o : List Rt) (hp : PosB rs) (h : finL e opened rs = some o) :
    ∃ p r, o = p ++ [e] ∧ Seg p ∧ balL (nB rs) p = some (nB r : Int) ∧ (opened = true → ∃ x l, p = x :: l ∧ curB x = true) ∧ (NoC rs → nB r = 0) := by
  unfold finL at h
  simp only at h
  have hbeg : Seg (if opened then beginL e 0 rs else (false, rs, [])).2.2 ∧ balL (nB rs) (if opened then beginL e 0 rs else (false, rs, [])).2.2 = some (nB (if opened then beginL e 0 rs else (false, rs, [])).2.1 : Int) ∧ (opened = true → ∃ x l, (if opened then beginL e 0 rs else (false, rs, [])).2.2 = x :: l ∧ curB x = true) ∧ PosB (if opened then beginL e 0 rs else (false, rs, [])).2.1 ∧ (NoC rs → NoC (if opened then beginL e 0 rs else (false, rs, [])).2.1) := by
    cases opened
    · exact ⟨fun _ hx => by simp at hx, rfl, fun h => Bool.noConfusion h, hp, fun h => h⟩
    · refine ⟨(begin_bal e 0 rs).1, (begin_bal e 0 rs).2, fun _ => begin_cur e 0 rs, pos_begin' e 0 rs hp, fun hc => ?_⟩
      unfold beginL
      simp only [if_true]
      split
      · intro hx
        rcases List.mem_cons.1 hx with hx | hx
        · cases hx
        · exact hc hx
      · exact hc
  revert hbeg h
  generalize (if opened then beginL e 0 rs else (false, rs, [])) = b
  intro h hbeg
  obtain ⟨b1, b2, b3, b4, b5⟩ := hbeg
  split at h
  · cases h
  · rename_i r' o' hx
    simp at h
    subst h
    obtain ⟨s1, s2⟩ := ln_bal _ _ _ _ _ _ hx
    refine ⟨b.2.2 ++ o', r', by simp, seg_app b1 s1, ?_, fun ho => ?_, fun hc => noC_nB r' (noC_ln _ _ _ _ _ _ (b5 hc) hx) (ln_zero _ _ _ _ _ b4 hx)⟩
    · rw [bal_app _ _ _ _ b2, s2]
    · obtain ⟨x, l, hb, hcx⟩ := b3 ho
      exact ⟨x, l ++ o', by rw [hb]; rfl, hcx⟩

theorem split_kind (ts : List Rt) : ∀ (last : Option Rt), (∀ t ∈ (splitL last ts).1, t.kind ≠ 9) ∧ (splitL last ts).2.kind = 9 := by
  induction ts with
  | nil => intro last; exact ⟨fun t h => by simp [splitL] at h, by cases last <;> rfl⟩
  | cons x ts ih =>
    intro last
    rw [splitL]
    split
    · rename_i h
      exact ⟨fun t h => by simp at h, by simpa using h⟩
    · rename_i h
      obtain ⟨h1, h2⟩ := ih (some x)
      refine ⟨fun t ht => ?_, h2⟩
      rcases List.mem_cons.1 ht with rfl | ht
      · simpa using h
      · exact h1 t ht
theorem split_n (ts : List Rt) (hn : ∀ t ∈ ts, t.n = 0) : ∀ (last : Option Rt), (splitL last ts).2.n = 0 := by
  induction ts with
  | nil => intro last; cases last <;> rfl
  | cons x ts ih =>
    intro last
    rw [splitL]
    split
    · exact hn x (by simp)
    · exact ih (fun t ht => hn t (by simp [ht])) (some x)

/-- WHAT IS LAID: all that was handed in, in order; balanced; and again the same. -/
theorem lay_keeps (ts o : List Rt) (hn : ∀ t ∈ ts, t.n = 0) (h : layL ts = .ok o) :
    ∃ p, o = p ++ [(splitL none ts).2] ∧ p.filter notIns = (splitL none ts).1 ∧ (∀ x ∈ p, insB x = true ∨ x ∈ (splitL none ts).1) ∧ (∃ m, balL 0 o = some m ∧ ((∀ t ∈ ts, t.text ≠ [123]) → m = 0)) ∧ layL o = .ok o := by
  unfold layL at h
  have hin : ∀ t ∈ (splitL none ts).1, t.n = 0 := fun t ht => hn t (split_mem ts none t ht)
  obtain ⟨k1, k2⟩ := split_kind ts none
  have k3 := split_n ts hn none
  split at h
  · cases h
  · rename_i rs o1 hg
    split at h
    · cases h
    · rename_i o2 hf
      simp at h
      subst h
      obtain ⟨g1, g2, g3, g4⟩ := go_seg _ _ _ _ _ hin hg
      have hpos := pos_go _ _ _ _ _ (fun c hx => by simp at hx) hg
      obtain ⟨p, r, rfl, f1, f2, f3, f4⟩ := fin_seg _ _ _ _ hpos hf
      refine ⟨o1 ++ p, by simp, by rw [List.filter_append, g1, seg_filter p f1, List.append_nil], fun x hx => ?_, ⟨(nB r : Int), ?_, fun hb => ?_⟩, ?_⟩
      · rcases List.mem_append.1 hx with hx | hx
        · exact g4 x hx
        · exact .inl (f1 x hx)
      · rw [show (0 : Int) = ((nB [] : Nat) : Int) from rfl, bal_app _ _ _ _ g2, bal_app _ _ _ _ f2]
        show (if ((splitL none ts).2.n == 1) = true then _ else some _) = _
        rw [k3]
        rfl
      · have hc : NoC rs := noC_go _ _ _ _ _ (fun t ht => by
          have := hb t (split_mem ts none t ht)
          simp [curB, signT, oneB]
          exact fun _ => this) (by simp [NoC]) hg
        rw [f4 hc]
        rfl
      · rw [← List.append_assoc]
        refine lay_again _ _ (fun t ht => ?_) k2 ?_
        · have hin' : insB t = true ∨ t ∈ (splitL none ts).1 := by
            rcases List.mem_append.1 ht with hx | hx
            · exact g4 t hx
            · exact .inl (f1 t hx)
          rcases hin' with hx | hx
          · simp only [insB, Bool.and_eq_true, beq_iff_eq] at hx
            omega
          · exact k1 t hx
        · have hl : lastP none (splitL none ts).1 = (splitL none ts).1.getLast? := by
            unfold lastP
            cases (splitL none ts).1.getLast? <;> rfl
          have := g3 p
          rw [show openedB none = false from rfl] at this
          rw [this, hl]
          revert f3
          generalize openedB (splitL none ts).1.getLast? = op
          intro f3
          cases p with
          | nil =>
            cases op with
            | false => rfl
            | true => obtain ⟨x, l, hx, _⟩ := f3 rfl; cases hx
          | cons x l =>
            have hno : ∀ y ∈ x :: l, opnB y = false := fun y hy => by
              have := f1 y hy
              simp only [insB, Bool.and_eq_true, beq_iff_eq] at this
              simp [opnB, wordT, this.1.2]
            have hall : ∀ (q : List Rt), (∀ y ∈ q, opnB y = false) → folB false q = true := by
              intro q
              induction q with
              | nil => intro _; rfl
              | cons y q ih =>
                intro hq
                simp only [folB, hq y (by simp)]
                simpa using ih (fun z hz => hq z (by simp [hz]))
            simp only [folB, hno x (by simp), hall l (fun y hy => hno y (by simp [hy]))]
            cases op with
            | false => rfl
            | true =>
              obtain ⟨x', l', hx, hcx⟩ := f3 rfl
              injection hx with h1 h2
              subst h1
              simp [hcx]
end Lx
end Go.Proofs.Ytbjbmehkcfpahaa
