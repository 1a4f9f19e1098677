/- Plain laws of the layout rule: tokens without openers are laid as they are; only the order of columns counts. Nothing of the program. -/
import Derived.Test.YtbjbmehkcfpahaaLay
namespace Go.Proofs.Ytbjbmehkcfpahaa
namespace Lx

/-! Tokens without openers -/
/-- No block and no braces lie on the stack. -/
def NoB (rs : List En) : Prop := ∀ e ∈ rs, ∃ m, e = .mk m
theorem noB_cur : ∀ (rs : List En), NoB rs → curC rs = none
  | [], _ => rfl
  | e :: r, h => by
    obtain ⟨m, rfl⟩ := h e (by simp)
    simp only [curC]
    exact noB_cur r (fun x hx => h x (by simp [hx]))
theorem noB_top (p : En → Bool) : ∀ (rs : List En) (n k : Nat) (e : En) (r : List En), NoB rs → topE p rs n = some (k, e, r) → k = n ∧ NoB (e :: r)
  | [], _, _, _, _, _, h => by simp [topE] at h
  | x :: rs, n, k, e, r, hb, h => by
    obtain ⟨m, hm⟩ := hb x (by simp)
    rw [topE] at h
    split at h
    · rw [hm] at h
      simp only [En.isBlk, Bool.false_eq_true, if_false] at h
      exact noB_top p rs n k e r (fun y hy => hb y (by simp [hy])) h
    · simp at h
      obtain ⟨rfl, rfl, rfl⟩ := h
      exact ⟨rfl, hb⟩
theorem noB_close (t : Rt) (rs : List En) (h : NoB rs) : NoB (closeL t rs).1 ∧ (closeL t rs).2 = [] := by
  unfold closeL
  split
  · exact ⟨h, rfl⟩
  · rename_i n e r hx
    obtain ⟨rfl, hb⟩ := noB_top _ _ _ _ _ _ h hx
    split
    · refine ⟨?_, rfl⟩
      dsimp only
      split
      · exact hb
      · split
        · intro y hy
          rcases List.mem_cons.1 hy with rfl | hy
          · exact ⟨_, rfl⟩
          · exact hb y (by simp [hy])
        · exact fun y hy => hb y (by simp [hy])
    · exact ⟨h, rfl⟩
theorem noB_end (t : Rt) (rs : List En) (h : NoB rs) : NoB (endL t rs).1 ∧ (endL t rs).2 = [] := by
  unfold endL
  split
  · exact noB_close t rs h
  · exact ⟨h, rfl⟩
theorem noB_ln (t : Rt) (col : Int) (k : Nat) (rs : List En) (h : NoB rs) : lnL t col (k + 1) rs = some (rs, []) := by
  rw [lnL, noB_cur rs h]
theorem noB_tok (t : Rt) (first : Bool) (rs : List En) (h : NoB rs) : ∃ r, tokL t first false rs = some (r, [t]) ∧ NoB r := by
  obtain ⟨h1, h2⟩ := noB_end t rs h
  refine ⟨mrkSt t (endL t rs).1, ?_, ?_⟩
  · unfold tokL
    simp only [Bool.false_and, Bool.false_eq_true, if_false, Bool.not_false, Bool.and_true]
    cases first with
    | true => simp [noB_ln t t.col rs.length rs h, h2]
    | false => simp [h2]
  · unfold mrkSt
    split
    · intro y hy
      rcases List.mem_cons.1 hy with rfl | hy
      · exact ⟨_, rfl⟩
      · exact h1 y hy
    · exact h1
theorem noB_go : ∀ (is : List Rt) (prev : Option Rt) (rs : List En), NoB rs → openedB prev = false → (∀ t ∈ is, opnB t = false) → ∃ r, goL prev is rs = .ok (r, is) ∧ NoB r
  | [], _, rs, h, _, _ => ⟨rs, rfl, h⟩
  | t :: is, prev, rs, h, ho, hall => by
    obtain ⟨r1, h1, hb1⟩ := noB_tok t (firstB prev t) rs h
    obtain ⟨r2, h2, hb2⟩ := noB_go is (some t) r1 hb1 (hall t (by simp)) (fun x hx => hall x (by simp [hx]))
    refine ⟨r2, ?_, hb2⟩
    rw [goL, ho, h1]
    simp only
    rw [h2]
    rfl
theorem split_mem (ts : List Rt) : ∀ (last : Option Rt), ∀ t ∈ (splitL last ts).1, t ∈ ts := by
  induction ts with
  | nil => intro last t h; simp [splitL] at h
  | cons x ts ih =>
    intro last t h
    rw [splitL] at h
    split at h
    · simp at h
    · simp at h
      rcases h with rfl | h
      · simp
      · simp [ih _ _ h]
/-- Without openers: the tokens, and the end. -/
theorem lay_plain (ts : List Rt) (h : ∀ t ∈ (splitL none ts).1, opnB t = false) : layL ts = .ok ((splitL none ts).1 ++ [(splitL none ts).2]) := by
  obtain ⟨r, h1, hb⟩ := noB_go (splitL none ts).1 none [] (fun _ hx => by simp at hx) rfl h
  have ho : openedB (splitL none ts).1.getLast? = false := by
    cases hl : (splitL none ts).1.getLast? with
    | none => rfl
    | some t => exact h t (List.mem_of_getLast? hl)
  unfold layL
  rw [h1]
  simp only
  rw [ho]
  have hf : finL (splitL none ts).2 false r = some [(splitL none ts).2] := by
    unfold finL
    simp only [Bool.false_eq_true, if_false]
    rw [noB_ln _ _ _ _ hb]
    rfl
  rw [hf]

/-! Columns greater by a number -/
def shR' (b : Int) (t : Rt) : Rt := { t with col := t.col + b }
def shE (b : Int) : En → En
  | .blk c => .blk (c + b)
  | e => e
/-- All blocks have columns from 1 on. -/
def PosB (rs : List En) : Prop := ∀ c, En.blk c ∈ rs → 1 ≤ c
theorem sh_cur (b : Int) : ∀ rs : List En, curC (rs.map (shE b)) = (curC rs).map (· + b) ∧ curR (rs.map (shE b)) = (curR rs).map (shE b) ∧ curL (rs.map (shE b)) = curL rs
  | [] => ⟨rfl, rfl, rfl⟩
  | .blk c :: r => ⟨rfl, rfl, rfl⟩
  | .brc :: r => ⟨rfl, rfl, rfl⟩
  | .mk m :: r => by
    obtain ⟨h1, h2, h3⟩ := sh_cur b r
    refine ⟨?_, ?_, ?_⟩
    · simpa [shE, curC] using h1
    · simpa [shE, curR] using h2
    · simp only [List.map_cons, shE, curL, h3]
theorem sh_class (b : Int) (t : Rt) : cloB (shR' b t) = cloB t ∧ opnB (shR' b t) = opnB t ∧ mrkB (shR' b t) = mrkB t ∧ curB (shR' b t) = curB t := ⟨rfl, rfl, rfl, rfl⟩
theorem pos_cur : ∀ (rs : List En) (c : Int), PosB rs → curC rs = some c → 1 ≤ c
  | [], _, _, h => by simp [curC] at h
  | .blk d :: r, c, hp, h => by simp [curC] at h; subst h; exact hp d (by simp)
  | .brc :: r, _, _, h => by simp [curC] at h
  | .mk m :: r, c, hp, h => pos_cur r c (fun x hx => hp x (by simp [hx])) (by simpa [curC] using h)
theorem pos_curR : ∀ (rs : List En), PosB rs → PosB (curR rs)
  | [], h => h
  | .mk m :: r, h => pos_curR r (fun x hx => h x (by simp [hx]))
  | .blk d :: r, h => fun x hx => h x (by simp [curR] at hx; simp [hx])
  | .brc :: r, h => fun x hx => h x (by simp [curR] at hx; simp [hx])
def shO (b : Int) : Option (List En × List Rt) → Option (List En × List Rt)
  | none => none
  | some (r, o) => some (r.map (shE b), o.map (shR' b))

theorem curMem : ∀ (rs : List En) (c : Int), curC rs = some c → En.blk c ∈ rs
  | [], _, h => by simp [curC] at h
  | .blk d :: r, c, h => by simp [curC] at h; subst h; simp
  | .brc :: r, _, h => by simp [curC] at h
  | .mk m :: r, c, h => by have := curMem r c (by simpa [curC] using h); simp [this]
theorem curRMem : ∀ (rs : List En) (e : En), e ∈ curR rs → e ∈ rs
  | [], _, h => by simp [curR] at h
  | .mk m :: r, e, h => by have := curRMem r e (by simpa [curR] using h); simp [this]
  | .blk d :: r, e, h => by simp [curR] at h; simp [h]
  | .brc :: r, e, h => by simp [curR] at h; simp [h]
theorem sh_ln (b : Int) (t : Rt) (col col' : Int) : ∀ (k : Nat) (rs : List En), PosB rs → (∀ c, En.blk c ∈ rs → (c < col ↔ c + b < col') ∧ (col = c ↔ col' = c + b)) → lnL (shR' b t) col' k (rs.map (shE b)) = shO b (lnL t col k rs) ∧ ∀ r o, lnL t col k rs = some (r, o) → PosB r
  | 0, _, _, _ => ⟨rfl, fun _ _ h => by cases h⟩
  | k + 1, rs, hp, hc => by
    obtain ⟨h1, h2, h3⟩ := sh_cur b rs
    rw [lnL, lnL, h1]
    cases hcur : curC rs with
    | none => exact ⟨rfl, fun r o h => by simp at h; rw [← h.1]; exact hp⟩
    | some c =>
      have hmem : En.blk c ∈ rs := curMem rs c hcur
      obtain ⟨e1, e2⟩ := hc c hmem
      simp only [Option.map_some]
      have t1 : (decide (c + b < col') || (col' == c + b && cloB (shR' b t))) = (decide (c < col) || (col == c && cloB t)) := by
        rw [(sh_class b t).1, decide_eq_decide.2 e1.symm, show (col' == c + b) = (col == c) from by
          rw [Bool.eq_iff_iff]; simp only [beq_iff_eq]; exact e2.symm]
      rw [t1, h3, h2]
      by_cases hx : (decide (c < col) || (col == c && cloB t)) = true
      · rw [if_pos hx, if_pos hx]
        exact ⟨rfl, fun r o h => by simp at h; rw [← h.1]; exact hp⟩
      · rw [if_neg hx, if_neg hx]
        cases hl : curL rs with
        | false => exact ⟨rfl, fun r o h => by cases h⟩
        | true =>
          simp only [if_true]
          have t2 : (col' == c + b) = (col == c) := by rw [Bool.eq_iff_iff]; simp only [beq_iff_eq]; exact e2.symm
          rw [t2]
          have hsub : ∀ d, En.blk d ∈ curR rs → En.blk d ∈ rs := fun d hd => curRMem rs _ hd
          by_cases hy : (col == c) = true
          · rw [if_pos hy, if_pos hy]
            refine ⟨rfl, fun r o h => ?_⟩
            simp at h
            rw [← h.1]
            intro d hd
            rcases List.mem_cons.1 hd with hd | hd
            · injection hd with hd; subst hd; exact hp d hmem
            · exact hp d (hsub d hd)
          · rw [if_neg hy, if_neg hy]
            obtain ⟨i1, i2⟩ := sh_ln b t col col' k (curR rs) (pos_curR rs hp) (fun d hd => hc d (hsub d hd))
            rw [i1]
            cases hr : lnL t col k (curR rs) with
            | none => exact ⟨rfl, fun r o h => by cases h⟩
            | some y =>
              obtain ⟨r', o'⟩ := y
              refine ⟨rfl, fun r o h => ?_⟩
              simp at h
              rw [← h.1]
              exact i2 r' o' hr

theorem she_blk (b : Int) (e : En) : (shE b e).isBlk = e.isBlk ∧ (shE b e).loose = e.loose := by cases e <;> exact ⟨rfl, rfl⟩
theorem she_fit (b : Int) (x : List UInt8) (e : En) : fitB x (shE b e) = fitB x e := by cases e <;> rfl
theorem sh_top (b : Int) (p : En → Bool) (hp : ∀ e, p (shE b e) = p e) : ∀ (rs : List En) (n : Nat), topE p (rs.map (shE b)) n = (topE p rs n).map fun x => (x.1, shE b x.2.1, x.2.2.map (shE b))
  | [], _ => rfl
  | e :: r, n => by
    simp only [List.map_cons, topE, hp, (she_blk b e).1]
    split
    · exact sh_top b p hp r _
    · rfl
theorem top_mem (p : En → Bool) : ∀ (rs : List En) (n k : Nat) (e : En) (r : List En), topE p rs n = some (k, e, r) → ∀ x, x ∈ e :: r → x ∈ rs
  | [], _, _, _, _, h, _, _ => by simp [topE] at h
  | y :: rs, n, k, e, r, h, x, hx => by
    rw [topE] at h
    split at h
    · have := top_mem p rs _ k e r h x hx
      simp [this]
    · simp at h
      obtain ⟨_, rfl, rfl⟩ := h
      exact hx
theorem sh_close (b : Int) (t : Rt) (rs : List En) : closeL (shR' b t) (rs.map (shE b)) = ((closeL t rs).1.map (shE b), (closeL t rs).2.map (shR' b)) := by
  unfold closeL
  have hq : topE (if (shR' b t).text == [105, 110] then En.isBlk else En.loose) (rs.map (shE b)) 0 = (topE (if t.text == [105, 110] then En.isBlk else En.loose) rs 0).map fun x => (x.1, shE b x.2.1, x.2.2.map (shE b)) := by
    show topE (if t.text == [105, 110] then En.isBlk else En.loose) (rs.map (shE b)) 0 = _
    refine sh_top b _ (fun e => ?_) rs 0
    split
    · exact (she_blk b e).1
    · exact (she_blk b e).2
  rw [hq]
  cases topE (if t.text == [105, 110] then En.isBlk else En.loose) rs 0 with
  | none => rfl
  | some y =>
    obtain ⟨n, e, r⟩ := y
    simp only [Option.map_some, she_fit]
    show (if fitB t.text e = true then ((if t.text == [44] then shE b e :: r.map (shE b) else if t.text == [116, 104, 101, 110] then .mk .thn :: r.map (shE b) else r.map (shE b)), List.replicate n (insT [125] (shR' b t))) else (rs.map (shE b), [])) = _
    cases fitB t.text e with
    | false => rfl
    | true =>
      simp only [if_true, List.map_replicate]
      refine Prod.ext ?_ rfl
      dsimp only
      split
      · rfl
      · split <;> rfl
theorem pos_close (t : Rt) (rs : List En) (h : PosB rs) : PosB (closeL t rs).1 := by
  unfold closeL
  split
  · exact h
  · rename_i n e r hx
    have hm := top_mem _ _ _ _ _ _ hx
    split
    · dsimp only
      split
      · exact fun c hc => h c (hm _ hc)
      · split
        · intro c hc
          rcases List.mem_cons.1 hc with hc | hc
          · cases hc
          · exact h c (hm _ (by simp [hc]))
        · exact fun c hc => h c (hm _ (by simp [hc]))
    · exact h
theorem sh_end (b : Int) (t : Rt) (rs : List En) : endL (shR' b t) (rs.map (shE b)) = ((endL t rs).1.map (shE b), (endL t rs).2.map (shR' b)) := by
  unfold endL
  rw [(sh_class b t).1]
  split
  · exact sh_close b t rs
  · rfl
theorem pos_end (t : Rt) (rs : List En) (h : PosB rs) : PosB (endL t rs).1 := by
  unfold endL
  split
  · exact pos_close t rs h
  · exact h
theorem sh_mark (b : Int) (t : Rt) (rs : List En) : mrkSt (shR' b t) (rs.map (shE b)) = (mrkSt t rs).map (shE b) := by
  unfold mrkSt
  rw [(sh_class b t).2.2.1]
  split <;> rfl
theorem pos_mark (t : Rt) (rs : List En) (h : PosB rs) : PosB (mrkSt t rs) := by
  unfold mrkSt
  split
  · intro c hc
    rcases List.mem_cons.1 hc with hc | hc
    · cases hc
    · exact h c hc
  · exact h
theorem sh_begin (b : Int) (hb : 0 ≤ b) (t : Rt) (ht : 1 ≤ t.col) (rs : List En) :
    beginL (shR' b t) (shR' b t).col (rs.map (shE b)) = ((beginL t t.col rs).1, (beginL t t.col rs).2.1.map (shE b), (beginL t t.col rs).2.2.map (shR' b)) := by
  have hx : ((curC (rs.map (shE b))).getD 0 < (shR' b t).col) ↔ ((curC rs).getD 0 < t.col) := by
    rw [(sh_cur b rs).1]
    show _ < t.col + b ↔ _
    cases hc : curC rs with
    | none => simp; omega
    | some c => simp
  unfold beginL
  by_cases h : (curC rs).getD 0 < t.col
  · rw [if_pos h, if_pos (hx.2 h)]
    rfl
  · rw [if_neg h, if_neg (fun e => h (hx.1 e))]
    rfl
theorem pos_begin (t : Rt) (ht : 1 ≤ t.col) (rs : List En) (h : PosB rs) : PosB (beginL t t.col rs).2.1 := by
  unfold beginL
  split
  · intro c hc
    rcases List.mem_cons.1 hc with hc | hc
    · injection hc with hc; omega
    · exact h c hc
  · exact h
theorem sh_tok (b : Int) (hb : 0 ≤ b) (t : Rt) (ht : 1 ≤ t.col) (first opened : Bool) (rs : List En) (hp : PosB rs) :
    tokL (shR' b t) first opened (rs.map (shE b)) = shO b (tokL t first opened rs) ∧ ∀ r o, tokL t first opened rs = some (r, o) → PosB r := by
  unfold tokL
  rw [(sh_class b t).2.2.2]
  by_cases hc : (opened && curB t) = true
  · rw [if_pos hc, if_pos hc]
    refine ⟨rfl, fun r o h => ?_⟩
    simp at h
    rw [← h.1]
    intro c hx
    rcases List.mem_cons.1 hx with hx | hx
    · cases hx
    · exact hp c hx
  · rw [if_neg hc, if_neg hc]
    have hbeg : (if opened then beginL (shR' b t) (shR' b t).col (rs.map (shE b)) else (false, rs.map (shE b), [])) = ((if opened then beginL t t.col rs else (false, rs, [])).1, (if opened then beginL t t.col rs else (false, rs, [])).2.1.map (shE b), (if opened then beginL t t.col rs else (false, rs, [])).2.2.map (shR' b)) := by
      cases opened
      · rfl
      · exact sh_begin b hb t ht rs
    have hpos : PosB (if opened then beginL t t.col rs else (false, rs, [])).2.1 := by
      cases opened
      · exact hp
      · exact pos_begin t ht rs hp
    simp only
    rw [hbeg, List.length_map]
    revert hpos
    generalize (if opened then beginL t t.col rs else (false, rs, [])) = x
    intro hpos
    simp only
    have hsec : (if (first && !x.1) = true then lnL (shR' b t) (shR' b t).col (rs.length + 1) (x.2.1.map (shE b)) else some (x.2.1.map (shE b), [])) = shO b (if (first && !x.1) = true then lnL t t.col (rs.length + 1) x.2.1 else some (x.2.1, [])) ∧ ∀ r o, (if (first && !x.1) = true then lnL t t.col (rs.length + 1) x.2.1 else some (x.2.1, [])) = some (r, o) → PosB r := by
      by_cases hf : (first && !x.1) = true
      · rw [if_pos hf, if_pos hf]
        refine sh_ln b t t.col (shR' b t).col _ _ hpos (fun c _ => ?_)
        show (c < t.col ↔ c + b < t.col + b) ∧ (t.col = c ↔ t.col + b = c + b)
        omega
      · rw [if_neg hf, if_neg hf]
        exact ⟨rfl, fun r o h => by simp at h; rw [← h.1]; exact hpos⟩
    obtain ⟨s1, s2⟩ := hsec
    rw [s1]
    revert s2
    generalize (if (first && !x.1) = true then lnL t t.col (rs.length + 1) x.2.1 else some (x.2.1, [])) = y
    intro s2
    cases y with
    | none => exact ⟨rfl, fun r o h => by cases h⟩
    | some z =>
      obtain ⟨r2, o2⟩ := z
      have hr2 := s2 r2 o2 rfl
      refine ⟨?_, fun r o h => ?_⟩
      · simp only [shO]
        rw [sh_end, sh_mark]
        simp
      · simp at h
        rw [← h.1]
        exact pos_mark t _ (pos_end t r2 hr2)
theorem sh_go (b : Int) (hb : 0 ≤ b) : ∀ (is : List Rt) (prev : Option Rt) (rs : List En), (∀ t ∈ is, 1 ≤ t.col) → PosB rs →
    goL (prev.map (shR' b)) (is.map (shR' b)) (rs.map (shE b)) = (match goL prev is rs with | .error t => .error (shR' b t) | .ok (r, o) => .ok (r.map (shE b), o.map (shR' b))) ∧ ∀ r o, goL prev is rs = .ok (r, o) → PosB r
  | [], _, rs, _, hp => ⟨rfl, fun r o h => by simp [goL] at h; rw [← h.1]; exact hp⟩
  | t :: is, prev, rs, hc, hp => by
    have hf : firstB (prev.map (shR' b)) (shR' b t) = firstB prev t := by cases prev <;> rfl
    have ho : openedB (prev.map (shR' b)) = openedB prev := by cases prev <;> rfl
    obtain ⟨h1, h2⟩ := sh_tok b hb t (hc t (by simp)) (firstB prev t) (openedB prev) rs hp
    simp only [List.map_cons, goL, hf, ho, h1]
    cases hx : tokL t (firstB prev t) (openedB prev) rs with
    | none => exact ⟨rfl, fun r o h => by cases h⟩
    | some y =>
      obtain ⟨r1, o1⟩ := y
      obtain ⟨i1, i2⟩ := sh_go b hb is (some t) r1 (fun x hx => hc x (by simp [hx])) (h2 r1 o1 hx)
      simp only [shO]
      rw [show (some (shR' b t) : Option Rt) = (some t).map (shR' b) from rfl, i1]
      cases hy : goL (some t) is r1 with
      | error e => exact ⟨rfl, fun r o h => by cases h⟩
      | ok z =>
        obtain ⟨r2, o2⟩ := z
        refine ⟨by simp, fun r o h => ?_⟩
        simp at h
        rw [← h.1]
        exact i2 r2 o2 hy
theorem sh_fin (b : Int) (hb : 0 ≤ b) (e : Rt) (opened : Bool) (rs : List En) (hp : PosB rs) : finL (shR' b e) opened (rs.map (shE b)) = (finL e opened rs).map (·.map (shR' b)) := by
  have hneg : ¬ (curC rs).getD 0 < 0 := by
    cases hc : curC rs with
    | none => simp
    | some c => have := pos_cur rs c hp hc; simp; omega
  have hneg' : ¬ (curC (rs.map (shE b))).getD 0 < 0 := by
    rw [(sh_cur b rs).1]
    cases hc : curC rs with
    | none => simp
    | some c => have := pos_cur rs c hp hc; simp; omega
  have hbeg : (if opened then beginL (shR' b e) 0 (rs.map (shE b)) else (false, rs.map (shE b), [])) = ((if opened then beginL e 0 rs else (false, rs, [])).1, (if opened then beginL e 0 rs else (false, rs, [])).2.1.map (shE b), (if opened then beginL e 0 rs else (false, rs, [])).2.2.map (shR' b)) := by
    cases opened
    · rfl
    · simp only [if_true, beginL]
      rw [if_neg hneg, if_neg hneg']
      rfl
  have hrs : (if opened then beginL e 0 rs else (false, rs, [])).2.1 = rs := by
    cases opened
    · rfl
    · simp only [if_true, beginL]
      rw [if_neg hneg]
  unfold finL
  simp only
  rw [hbeg, List.length_map]
  simp only
  rw [hrs]
  obtain ⟨h1, _⟩ := sh_ln b e 0 0 (rs.length + 2) rs hp (fun c hc => by have := hp c hc; omega)
  rw [h1]
  cases lnL e 0 (rs.length + 2) rs with
  | none => rfl
  | some y => obtain ⟨r, o⟩ := y; simp [shO]
theorem sh_split (b : Int) : ∀ (ts : List Rt) (last : Option Rt), (last.isSome = true ∨ ts ≠ []) → splitL (last.map (shR' b)) (ts.map (shR' b)) = ((splitL last ts).1.map (shR' b), shR' b (splitL last ts).2)
  | [], last, h => by
    cases last with
    | none => simp at h
    | some t => rfl
  | t :: ts, last, _ => by
    simp only [List.map_cons, splitL]
    show (if (t.kind == 9) = true then _ else _) = _
    split
    · rfl
    · rw [show (some (shR' b t) : Option Rt) = (some t).map (shR' b) from rfl, sh_split b ts (some t) (.inl rfl)]
      rfl
/-- ONLY THE ORDER OF COLUMNS COUNTS. -/
theorem lay_shift (b : Int) (hb : 0 ≤ b) (ts : List Rt) (h0 : ts ≠ []) (hc : ∀ t ∈ ts, 1 ≤ t.col) :
    layL (ts.map (shR' b)) = match layL ts with | .error t => .error (shR' b t) | .ok o => .ok (o.map (shR' b)) := by
  unfold layL
  rw [show splitL none (ts.map (shR' b)) = _ from sh_split b ts none (.inr h0)]
  simp only
  have hcs : ∀ t ∈ (splitL none ts).1, 1 ≤ t.col := fun t ht => hc t (split_mem ts none t ht)
  obtain ⟨h1, h2⟩ := sh_go b hb (splitL none ts).1 none [] hcs (fun c hx => by simp at hx)
  rw [show goL none ((splitL none ts).1.map (shR' b)) [] = _ from h1]
  cases hx : goL none (splitL none ts).1 [] with
  | error t => rfl
  | ok y =>
    obtain ⟨r, o⟩ := y
    simp only
    have ho : openedB ((splitL none ts).1.map (shR' b)).getLast? = openedB (splitL none ts).1.getLast? := by
      rw [List.getLast?_map]
      cases (splitL none ts).1.getLast? <;> rfl
    rw [ho, sh_fin b hb _ _ r (h2 r o hx)]
    cases finL (splitL none ts).2 (openedB (splitL none ts).1.getLast?) r with
    | none => rfl
    | some o' => simp
end Lx
end Go.Proofs.Ytbjbmehkcfpahaa
