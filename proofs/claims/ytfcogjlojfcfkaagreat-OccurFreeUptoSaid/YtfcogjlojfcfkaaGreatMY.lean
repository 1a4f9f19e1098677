/- An expression with another one in a name's place. No condition. -/
import Derived.Test.YtfcogjlojfcfkaaGreatMO
import Derived.Test.YtfcogjlojfcfkaaGreatMV
section
namespace Go.Proofs.YtfcogjlojfcfkaaGreat
open Go.RowKit Ex0

/-- An expression by itself. -/
structure By where
  (k : Int) (s : List UInt8) (n op : Int) (ns : List (List UInt8)) (a b c : Fx)
/-- Is a name open behind what stands ahead of an expression in a row (al: of alternatives)? -/
def seesP (x : List UInt8) (al : Bool) (p : Pre) : Bool := !(al && decide (x ∈ altBinds p))
/-- A row with another expression in a name's place, where the name is open (o). -/
def repF (x : List UInt8) (y : By) : Bool → Bool → Fx → Fx
  | _, _, .nil => .nil
  | al, o, .cons p k s n op ns a b c r =>
    if (o && seesP x al p) && ((k == 1) && decide (s = x)) then .cons p y.k y.s y.n y.op y.ns y.a y.b y.c (repF x y al o r)
    else .cons p k s n op ns (repF x y false ((o && seesP x al p) && !decide (x ∈ ns) && !decide (x ∈ bnames b)) a) (repF x y false ((o && seesP x al p) && !decide (x ∈ ns) && !decide (x ∈ bnames b)) b)
      (repF x y true (((o && seesP x al p) && !decide (x ∈ ns) && !decide (x ∈ bnames b)) && !decide (s = x)) c) (repF x y al o r)
/-- An expression with another one in a name's place. -/
def repE (x : List UInt8) (y : By) (o : Bool) (k : Int) (s : List UInt8) (n op : Int) (ns : List (List UInt8)) (a b c : Fx) : By :=
  if o && ((k == 1) && decide (s = x)) then y
  else ⟨k, s, n, op, ns, repF x y false (o && !decide (x ∈ ns) && !decide (x ∈ bnames b)) a, repF x y false (o && !decide (x ∈ ns) && !decide (x ∈ bnames b)) b, repF x y true ((o && !decide (x ∈ ns) && !decide (x ∈ bnames b)) && !decide (s = x)) c⟩
def By.fx (y : By) (p : Pre) (r : Fx) : Fx := .cons p y.k y.s y.n y.op y.ns y.a y.b y.c r
theorem repF_cons (x : List UInt8) (y : By) (al o : Bool) (p : Pre) (k : Int) (s : List UInt8) (n op : Int) (ns : List (List UInt8)) (a b c r : Fx) :
    repF x y al o (.cons p k s n op ns a b c r) = (repE x y (o && seesP x al p) k s n op ns a b c).fx p (repF x y al o r) := by
  rw [repF]
  unfold repE By.fx
  split <;> rfl
theorem repF_app (x : List UInt8) (y : By) (al o : Bool) (f g : Fx) : repF x y al o (f.app g) = (repF x y al o f).app (repF x y al o g) := by
  induction f with
  | nil => rfl
  | cons p k s n op ns a b c r _ _ _ ih =>
    simp only [Fx.app, repF_cons, ih]
    rfl
theorem repF_len (x : List UInt8) (y : By) (al o : Bool) (f : Fx) : (repF x y al o f).len = f.len := by
  induction f with
  | nil => rfl
  | cons p k s n op ns a b c r _ _ _ ih => simp only [repF_cons, By.fx, Fx.len, ih]
theorem repF_nil (x : List UInt8) (y : By) (al o : Bool) : repF x y al o .nil = .nil := rfl
/-- Where the name is not open nothing is put. -/
theorem repF_shut (x : List UInt8) (y : By) (al : Bool) (f : Fx) : repF x y al false f = f := by
  induction f generalizing al with
  | nil => rfl
  | cons p k s n op ns a b c r iha ihb ihc ihr => simp [repF, iha, ihb, ihc, ihr]
theorem repE_shut (x : List UInt8) (y : By) (k : Int) (s : List UInt8) (n op : Int) (ns : List (List UInt8)) (a b c : Fx) : repE x y false k s n op ns a b c = ⟨k, s, n, op, ns, a, b, c⟩ := by
  simp [repE, repF_shut]
theorem repF_bnames (x : List UInt8) (y : By) (al o : Bool) (f : Fx) : bnames (repF x y al o f) = bnames f := by
  induction f with
  | nil => rfl
  | cons p k s n op ns a b c r _ _ _ ih =>
    rw [repF_cons]
    cases p <;> simp only [By.fx, bnames, ih]
theorem repF_alts (x : List UInt8) (y : By) (al o : Bool) (f : Fx) : altsOk (repF x y al o f) = altsOk f := by
  induction f with
  | nil => rfl
  | cons p k s n op ns a b c r _ _ _ ih =>
    rw [repF_cons]
    simp only [By.fx, altsOk, ih]
/-- Is it an expression? -/
def By.right (y : By) : Prop := shapeB y.k y.s y.n y.op y.ns y.a y.b y.c = true ∧ wholeB y.k y.op y.ns y.a y.b y.c = true
theorem shapeB_eq (k : Int) (s : List UInt8) (n op : Int) (ns : List (List UInt8)) (a b c : Fx) : shapeB k s n op ns a b c = (ownB k s n op ns a.len b.len c && (Fxshape a && (Fxshape b && Fxshape c))) := by
  unfold shapeB parts
  rw [shape_bare, shape_app, shape_app]
theorem wholeB_eq (k op : Int) (ns : List (List UInt8)) (a b c : Fx) : wholeB k op ns a b c = (wholeOwn k op ns a.len b.len c.len && (Fxwhole a && (Fxwhole b && Fxwhole c))) := by
  unfold wholeB parts
  rw [whole_bare, whole_app, whole_app]
theorem ownB_rep {k : Int} {s : List UInt8} {n op : Int} {ns : List (List UInt8)} {la lb : Nat} (x : List UInt8) (y : By) (al o : Bool) (c : Fx) : ownB k s n op ns la lb (repF x y al o c) = ownB k s n op ns la lb c := by
  unfold ownB
  rw [repF_len, repF_alts]
theorem repF_right (x : List UInt8) (y : By) (hy : y.right) (f : Fx) : ∀ (al o : Bool), Fxshape f = true → Fxwhole f = true → Fxshape (repF x y al o f) = true ∧ Fxwhole (repF x y al o f) = true := by
  induction f with
  | nil => intro _ _ _ _; exact ⟨rfl, rfl⟩
  | cons p k s n op ns a b c r iha ihb ihc ihr =>
    intro al o h1 h2
    rw [shape_cons, Bool.and_eq_true] at h1
    rw [whole_cons, Bool.and_eq_true] at h2
    obtain ⟨q1, q2⟩ := ihr al o h1.2 h2.2
    rw [repF_cons]
    unfold By.fx
    rw [shape_cons, whole_cons, q1, q2, Bool.and_true, Bool.and_true]
    unfold repE
    split
    · exact hy
    · have s1 := h1.1
      have w1 := h2.1
      rw [shapeB_eq] at s1
      rw [wholeB_eq] at w1
      simp only [Bool.and_eq_true] at s1 w1
      dsimp only
      rw [shapeB_eq, wholeB_eq, ownB_rep, repF_len, repF_len, repF_len]
      obtain ⟨a1, a2⟩ := iha false ((o && seesP x al p) && !decide (x ∈ ns) && !decide (x ∈ bnames b)) s1.2.1 w1.2.1
      obtain ⟨b1, b2⟩ := ihb false ((o && seesP x al p) && !decide (x ∈ ns) && !decide (x ∈ bnames b)) s1.2.2.1 w1.2.2.1
      obtain ⟨c1, c2⟩ := ihc true (((o && seesP x al p) && !decide (x ∈ ns) && !decide (x ∈ bnames b)) && !decide (s = x)) s1.2.2.2 w1.2.2.2
      rw [a1, a2, b1, b2, c1, c2, s1.1, w1.1]
      exact ⟨rfl, rfl⟩
theorem repE_right {x : List UInt8} {y : By} (hy : y.right) {o : Bool} {k : Int} {s : List UInt8} {n op : Int} {ns : List (List UInt8)} {a b c : Fx} (h : rightB k s n op ns a b c = true) : (repE x y o k s n op ns a b c).right := by
  unfold rightB at h
  rw [Bool.and_eq_true] at h
  have h1 := repF_right x y hy (.cons .no k s n op ns a b c .nil) false o (by rw [shape_cons, h.1]; rfl) (by rw [whole_cons, h.2]; rfl)
  rw [repF_cons] at h1
  have e : (o && seesP x false .no) = o := by simp [seesP]
  rw [e] at h1
  unfold By.fx at h1
  rw [shape_cons, whole_cons, Bool.and_eq_true, Bool.and_eq_true] at h1
  exact ⟨h1.1.1, h1.2.1⟩
end Go.Proofs.YtfcogjlojfcfkaaGreat
end

section
namespace Go.Proofs.YtfcogjlojfcfkaaGreat
open Go.RowKit Ex0

/-- How often a name stands in a row (al: of alternatives, where these let it through). -/
def sumS (x : List UInt8) (al : Bool) : Fx → Nat
  | .nil => 0
  | .cons p k s _ _ ns a b c r => (if seesP x al p then (usesE x k s ns a b c).1 else 0) + sumS x al r
theorem sumS_false (x : List UInt8) (f : Fx) : ((f.uses x).map fun t => t.2.1).sum = sumS x false f := by
  induction f with
  | nil => rfl
  | cons p k s n op ns a b c r _ _ _ ih =>
    simp only [Fx.uses, List.map_cons, List.sum_cons, sumS, ih]
    rfl
theorem sumS_filter (x : List UInt8) (k : Int) (s : List UInt8) (f : Fx) : (((f.uses x).filter fun t => altSees x k s t.1).map fun t => t.2.1).sum = if (k == 6) && decide (s = x) then 0 else sumS x true f := by
  induction f with
  | nil => simp [Fx.uses, sumS]
  | cons p k' s' n op ns a b c r _ _ _ ih =>
    simp only [Fx.uses, sumS]
    rw [List.filter_cons]
    cases hk : ((k == 6) && decide (s = x)) with
    | true =>
      rw [hk] at ih
      have e : altSees x k s p = false := by cases p <;> simp [altSees, hk]
      dsimp only
      rw [if_neg (by rw [e]; exact Bool.false_ne_true)]
      simpa using ih
    | false =>
      rw [hk] at ih
      have e : altSees x k s p = seesP x true p := by
        cases p <;> (unfold altSees; rw [hk]; simp [seesP, altBinds]) <;> exact decide_eq_decide.2 Iff.rfl
      dsimp only
      rw [e]
      split
      · rw [List.map_cons, List.sum_cons, ih]
        rfl
      · rw [ih]
        simp
theorem uses_binds (x z : List UInt8) (f : Fx) : ((f.uses x).any fun t => decide (t.1 = .bind z)) = true ↔ z ∈ bnames f := by
  induction f with
  | nil => simp [Fx.uses, bnames]
  | cons p k s n op ns a b c r _ _ _ ih =>
    simp only [Fx.uses, List.any_cons, Bool.or_eq_true, ih, decide_eq_true_eq]
    cases p with
    | no => simp [bnames]
    | alt _ _ _ _ => simp [bnames]
    | bind s' =>
      simp only [bnames, List.mem_cons, Pre.bind.injEq]
      constructor
      · rintro (rfl | h)
        · exact .inl rfl
        · exact .inr h
      · rintro (rfl | h)
        · exact .inl rfl
        · exact .inr h
/-- The three sorts of expressions, to a name. -/
theorem three (x : List UInt8) {k : Int} {s : List UInt8} {n op : Int} {ns : List (List UInt8)} {a b c : Fx} (h : ownB k s n op ns a.len b.len c = true) :
    (k = 1 ∧ a = .nil ∧ b = .nil ∧ c = .nil ∧ (usesE x k s ns a b c).1 = (if s = x then 1 else 0)) ∨ (k ≠ 1 ∧ (x ∈ ns ∨ x ∈ bnames b) ∧ c = .nil ∧ (usesE x k s ns a b c).1 = 0) ∨
      (k ≠ 1 ∧ x ∉ ns ∧ x ∉ bnames b ∧ (c ≠ .nil → k = 6) ∧ (usesE x k s ns a b c).1 = sumS x false a + sumS x false b + (if s = x then 0 else sumS x true c)) := by
  obtain ⟨h1, h2, h3, h4⟩ := own_no h
  by_cases k1 : k = 1
  · subst k1
    obtain rfl := h1 rfl
    obtain rfl := h3 rfl
    obtain rfl := h4 rfl
    exact .inl ⟨rfl, rfl, rfl, rfl, by simp [usesE, usesOf]⟩
  · have e1 : (k == 1) = false := by simpa using k1
    by_cases hn : x ∈ ns
    · have k3 : (k == 3) = true := by
        cases hk : (k == 3) with
        | true => rfl
        | false => rw [h2 hk] at hn; cases hn
      have k6 : (k == 6) = false := by have : k = 3 := by simpa using k3
                                       subst this; rfl
      exact .inr (.inl ⟨k1, .inl hn, h4 k6, by simp [usesE, usesOf, e1, k3, hn]⟩)
    · by_cases hb : x ∈ bnames b
      · have k5 : (k == 5) = true := by
          cases hk : (k == 5) with
          | true => rfl
          | false => rw [h3 hk] at hb; cases hb
        have k6 : (k == 6) = false := by have : k = 5 := by simpa using k5
                                         subst this; rfl
        have k3 : (k == 3) = false := by have : k = 5 := by simpa using k5
                                         subst this; rfl
        have hu := (uses_binds x x b).2 hb
        exact .inr (.inl ⟨k1, .inr hb, h4 k6, by unfold usesE usesOf; rw [e1, k3, k5, hu]; rfl⟩)
      · refine .inr (.inr ⟨k1, hn, hb, fun hc => ?_, ?_⟩)
        · cases hk : (k == 6) with
          | true => simpa using hk
          | false => exact absurd (h4 hk) hc
        · have hu : ((b.uses x).any fun t => decide (t.1 = .bind x)) = false := Bool.eq_false_iff.2 (fun h => hb ((uses_binds x x b).1 h))
          have hd : decide (x ∈ ns) = false := decide_eq_false hn
          unfold usesE usesOf
          rw [e1, hd, hu, Bool.and_false, Bool.and_false]
          simp only [Bool.false_eq_true, if_false]
          rw [List.map_append, List.map_append, List.sum_append, List.sum_append, sumS_false, sumS_false, sumS_filter]
          cases hk : (k == 6) with
          | true =>
            by_cases hs : s = x
            · simp [hs]
            · simp [hs]; omega
          | false =>
            rw [h4 hk]
            simp [sumS]

/-- What is put in a name's place: does the name not stand in it, and how great is it? -/
structure ByOk (x : List UInt8) (y : By) (d : Nat) : Prop where
  right : y.right
  none : (usesE x y.k y.s y.ns y.a y.b y.c).1 = 0
  cnt : 1 + (y.a.count + y.b.count + y.c.count) = 1 + d
theorem sumS_nil_if (x : List UInt8) (q : Bool) (c : Fx) (h : c = .nil) : sumS x q c = 0 := by rw [h]; rfl

/-- Behind it the name stands nowhere; it is as much greater; and free is what stands. -/
theorem rep_facts (x : List UInt8) (y : By) (d : Nat) (hy : ByOk x y d) (f : Fx) : ∀ (al : Bool), Fxshape f = true → sumS x al (repF x y al true f) = 0 ∧ (repF x y al true f).count = f.count + d * sumS x al f ∧ fvF x al f = decide (0 < sumS x al f) := by
  induction f with
  | nil => intro al _; exact ⟨rfl, by simp [repF, Fx.count, sumS], rfl⟩
  | cons p k s n op ns a b c r iha ihb ihc ihr =>
    intro al hs
    rw [shape_cons, Bool.and_eq_true] at hs
    obtain ⟨r1, r2, r3⟩ := ihr al hs.2
    have hs1 := hs.1
    rw [shapeB_eq] at hs1
    simp only [Bool.and_eq_true] at hs1
    obtain ⟨ho, ha, hb, hc⟩ := hs1
    obtain ⟨a1, a2, a3⟩ := iha false ha
    obtain ⟨b1, b2, b3⟩ := ihb false hb
    obtain ⟨c1, c2, c3⟩ := ihc true hc
    -- the expression itself, where the name is open
    have key : (usesE x (repE x y true k s n op ns a b c).k (repE x y true k s n op ns a b c).s (repE x y true k s n op ns a b c).ns (repE x y true k s n op ns a b c).a (repE x y true k s n op ns a b c).b (repE x y true k s n op ns a b c).c).1 = 0 ∧
        (1 + ((repE x y true k s n op ns a b c).a.count + (repE x y true k s n op ns a b c).b.count + (repE x y true k s n op ns a b c).c.count) = 1 + (a.count + b.count + c.count) + d * (usesE x k s ns a b c).1) ∧
        fvE x k s ns a b c = decide (0 < (usesE x k s ns a b c).1) := by
      rcases three x ho with ⟨rfl, rfl, rfl, rfl, hu⟩ | ⟨k1, hin, rfl, hu⟩ | ⟨k1, hn, hbn, hc6, hu⟩
      · rw [hu]
        by_cases hsx : s = x
        · have e : repE x y true 1 s n op ns .nil .nil .nil = y := by simp [repE, hsx]
          rw [e, if_pos hsx]
          refine ⟨hy.none, by have := hy.cnt; simp only [Fx.count]; omega, ?_⟩
          simp [fvE, hsx]
        · have e : repE x y true 1 s n op ns .nil .nil .nil = ⟨1, s, n, op, ns, .nil, .nil, .nil⟩ := by simp [repE, hsx, repF]
          rw [e, if_neg hsx]
          refine ⟨by dsimp only; rw [hu, if_neg hsx], by simp, ?_⟩
          simp [fvE, fvF, Ne.symm hsx]
      · have e : repE x y true k s n op ns a b .nil = ⟨k, s, n, op, ns, a, b, .nil⟩ := by
          have e1 : (k == 1) = false := by simpa using k1
          have e2 : (!decide (x ∈ ns) && !decide (x ∈ bnames b)) = false := by rcases hin with h | h <;> simp [h]
          simp [repE, e1, e2, repF_shut, repF]
        rw [e]
        refine ⟨hu, by simp [hu], ?_⟩
        have e1 : (k == 1) = false := by simpa using k1
        have e2 : (!decide (x ∈ ns) && !decide (x ∈ bnames b)) = false := by rcases hin with h | h <;> simp [h]
        rw [hu]
        simp [fvE, e1, e2, fvF]
      · have e1 : (k == 1) = false := by simpa using k1
        have e2 : (true && !decide (x ∈ ns) && !decide (x ∈ bnames b)) = true := by simp [hn, hbn]
        have e : repE x y true k s n op ns a b c = ⟨k, s, n, op, ns, repF x y false true a, repF x y false true b, repF x y true (!decide (s = x)) c⟩ := by
          unfold repE
          rw [e1, e2]
          simp
        rw [e]
        dsimp only
        have ho' : ownB k s n op ns (repF x y false true a).len (repF x y false true b).len (repF x y true (!decide (s = x)) c) = true := by rw [ownB_rep, repF_len, repF_len]; exact ho
        have hcE : (repF x y true (!decide (s = x)) c).count = c.count + d * (if s = x then 0 else sumS x true c) := by
          by_cases hsx : s = x
          · simp [hsx, repF_shut]
          · simp only [hsx, decide_false, Bool.not_false, if_false]
            exact c2
        refine ⟨?_, ?_, ?_⟩
        · rcases three x ho' with ⟨hk, _⟩ | ⟨_, _, _, h⟩ | ⟨_, _, _, _, h⟩
          · exact absurd hk k1
          · exact h
          · rw [h, a1, b1]
            by_cases hsx : s = x
            · simp [hsx]
            · simp only [hsx, decide_false, Bool.not_false, if_false, c1]
        · rw [a2, b2, hcE, hu, Nat.mul_add, Nat.mul_add]
          omega
        · rw [hu]
          unfold fvE
          rw [e1, a3, b3, c3]
          by_cases hsx : s = x
          · simp [hn, hbn, hsx]
            by_cases q1 : 0 < sumS x false a <;> by_cases q2 : 0 < sumS x false b <;> simp [q1, q2] <;> omega
          · by_cases hcn : c = .nil
            · subst hcn
              simp [hn, hbn, hsx, sumS]
              by_cases q1 : 0 < sumS x false a <;> by_cases q2 : 0 < sumS x false b <;> simp [q1, q2] <;> omega
            · have hk := hc6 hcn
              subst hk
              simp [hn, hbn, hsx, Ne.symm hsx]
              by_cases q1 : 0 < sumS x false a <;> by_cases q2 : 0 < sumS x false b <;> by_cases q3 : 0 < sumS x true c <;> simp [q1, q2, q3] <;> omega
    rw [repF_cons]
    cases hsp : seesP x al p with
    | true =>
      simp only [By.fx, sumS, hsp, if_true, Bool.and_true, Fx.count]
      refine ⟨by rw [key.1, r1], ?_, ?_⟩
      · have := key.2.1
        rw [r2, Nat.mul_add]
        omega
      · have e : fvF x al (.cons p k s n op ns a b c r) = (fvE x k s ns a b c || fvF x al r) := by
          have e3 : (al && decide (x ∈ altBinds p)) = false := by
            unfold seesP at hsp
            cases hq : (al && decide (x ∈ altBinds p)) with
            | false => rfl
            | true => rw [hq] at hsp; cases hsp
          simp only [fvF, fvE, e3, Bool.not_false, Bool.true_and]
        rw [e, key.2.2, r3]
        by_cases q1 : 0 < (usesE x k s ns a b c).1 <;> by_cases q2 : 0 < sumS x al r <;> simp [q1, q2] <;> omega
    | false =>
      simp only [By.fx, sumS, hsp, Bool.and_false, repE_shut, Fx.count, Bool.false_eq_true, if_false, Nat.zero_add]
      refine ⟨r1, by rw [r2]; omega, ?_⟩
      have e : fvF x al (.cons p k s n op ns a b c r) = fvF x al r := by
        have e3 : (al && decide (x ∈ altBinds p)) = true := by
          unfold seesP at hsp
          cases hq : (al && decide (x ∈ altBinds p)) with
          | true => rfl
          | false => rw [hq] at hsp; cases hsp
        simp only [fvF, e3, Bool.not_true, Bool.false_and, Bool.false_or]
      rw [e, r3]
/-- The same of an expression. -/
theorem rep_one (x : List UInt8) (y : By) (d : Nat) (hy : ByOk x y d) {k : Int} {s : List UInt8} {n op : Int} {ns : List (List UInt8)} {a b c : Fx} (h : rightB k s n op ns a b c = true) {z : By} (hz : z = repE x y true k s n op ns a b c) :
    (usesE x z.k z.s z.ns z.a z.b z.c).1 = 0 ∧ 1 + (parts z.a z.b z.c).count = 1 + (parts a b c).count + d * (usesE x k s ns a b c).1 ∧ fvE x k s ns a b c = decide (0 < (usesE x k s ns a b c).1) ∧ rightB z.k z.s z.n z.op z.ns z.a z.b z.c = true := by
  have hr := h
  unfold rightB at h
  rw [Bool.and_eq_true] at h
  obtain ⟨h1, h2, h3⟩ := rep_facts x y d hy (.cons .no k s n op ns a b c .nil) false (by rw [shape_cons, h.1]; rfl)
  have e : (true && seesP x false .no) = true := by simp [seesP]
  have e2 : seesP x false .no = true := by simp [seesP]
  rw [repF_cons, e, ← hz] at h1 h2
  simp only [By.fx, sumS, e2, if_true, Fx.count, repF_nil, Nat.add_zero] at h1 h2
  simp only [sumS, e2, if_true] at h3
  refine ⟨by omega, by rw [parts_count, parts_count]; omega, ?_, ?_⟩
  · have e4 : fvF x false (.cons .no k s n op ns a b c .nil) = fvE x k s ns a b c := by simp [fvF, fvE]
    rw [e4] at h3
    simpa using h3
  · have := repE_right (x := x) hy.right (o := true) hr
    rw [← hz] at this
    unfold rightB
    rw [this.1, this.2]
    rfl
end Go.Proofs.YtfcogjlojfcfkaaGreat
end
