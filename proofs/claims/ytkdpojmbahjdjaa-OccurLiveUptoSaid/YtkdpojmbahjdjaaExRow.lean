/- Rows of expressions that the program builds. No condition. -/
import Derived.Test.YtkdpojmbahjdjaaExA
import Derived.OwnWalk
import Derived.Deep.AppendLies
namespace Go.Proofs.Ytkdpojmbahjdjaa
open Go Go.RowKit Ex0

/-- The cells of a row of expressions. -/
def FxRow (ok : Nat → Prop) (w : World) : Fx → List Value → Prop
  | .nil, cs => cs = []
  | .cons _ k s n op ns a b c r, cs => ∃ vn va vb vc cr, cs = .int .i64 k :: .string (bt s) :: .int .i64 n :: .int .i64 op :: vn :: va :: vb :: vc :: cr ∧ ExV ok w vn va vb vc ns a b c ∧ FxRow ok w r cr
theorem FxRow.keep {ok ok' : Nat → Prop} {w w' : World} (h : Keep ok ok' w w') : ∀ {f : Fx} {cs : List Value}, FxRow ok w f cs → FxRow ok' w' f cs
  | .nil, _, e => e
  | .cons _ _ _ _ _ _ _ _ _ _, _, ⟨vn, va, vb, vc, cr, e, hx, hr⟩ => ⟨vn, va, vb, vc, cr, e, hx.keep h, FxRow.keep h hr⟩
theorem FxRow.app {ok : Nat → Prop} {w : World} {g : Fx} {ds : List Value} (hg : FxRow ok w g ds) : ∀ {f : Fx} {cs : List Value}, FxRow ok w f cs → FxRow ok w (f.app g) (cs ++ ds)
  | .nil, _, e => by cases e; exact hg
  | .cons _ _ _ _ _ _ _ _ _ _, _, ⟨vn, va, vb, vc, cr, e, hx, hr⟩ => by subst e; exact ⟨vn, va, vb, vc, _, rfl, hx, FxRow.app hg hr⟩
theorem FxRow.length {ok : Nat → Prop} {w : World} : ∀ {f : Fx} {cs : List Value}, FxRow ok w f cs → cs.length = f.len * 8
  | .nil, _, e => by cases e; rfl
  | .cons _ _ _ _ _ _ _ _ _ r, _, ⟨vn, va, vb, vc, cr, e, hx, hr⟩ => by
    have := FxRow.length hr
    subst e
    simp only [List.length_cons, Fx.len]
    omega
theorem FxRow.bare {ok : Nat → Prop} {w : World} : ∀ {f : Fx} {cs : List Value}, FxRow ok w f cs → FxRow ok w f.bare cs
  | .nil, _, e => e
  | .cons _ _ _ _ _ _ _ _ _ _, _, ⟨vn, va, vb, vc, cr, e, hx, hr⟩ => ⟨vn, va, vb, vc, cr, e, hx, FxRow.bare hr⟩
theorem FxRow.one {ok : Nat → Prop} {w : World} : ∀ {f : Fx} {cs : List Value}, FxRow ok w f cs → ∀ u ∈ cs, u.oneCell' = true
  | .nil, _, e => by cases e; intro u hu; cases hu
  | .cons _ _ _ _ _ _ _ _ _ _, _, ⟨vn, va, vb, vc, cr, e, hx, hr⟩ => by
    subst e
    obtain ⟨_, _, rfl⟩ := hx.ns.slice
    obtain ⟨_, _, rfl⟩ := hx.a.slice
    obtain ⟨_, _, rfl⟩ := hx.b.slice
    obtain ⟨_, _, rfl⟩ := hx.c.slice
    intro u hu
    simp only [List.mem_cons] at hu
    rcases hu with rfl | rfl | rfl | rfl | rfl | rfl | rfl | rfl | hu
    · rfl
    · rfl
    · rfl
    · rfl
    · rfl
    · rfl
    · rfl
    · rfl
    · exact FxRow.one hr u hu
/-- The cells of a row of expressions that lies somewhere. -/
theorem fxAt_row {ok : Nat → Prop} {w : World} {b : Nat} : ∀ {f : Fx} {o : Nat}, FxAt ok w 0 b o f → ∃ cs, FxRow ok w f cs ∧ ∀ j u, cs[j]? = some u → w.cell? ⟨b, o + j, none⟩ = some u
  | .nil, _, _ => ⟨[], rfl, fun j u h => by simp at h⟩
  | .cons p k s n op ns x y z r, o, h => by
    obtain ⟨_, h0, h1, h2, h3, ⟨vn, va, vb, vc, h4, h5, h6, h7, hx⟩, hr⟩ := fxAt_cons.1 h
    obtain ⟨cr, hcr, hcc⟩ := fxAt_row hr
    refine ⟨_, ⟨vn, va, vb, vc, cr, rfl, hx, hcr⟩, fun j u hj => ?_⟩
    match j, hj with
    | 0, hj => simp only [List.getElem?_cons_zero, Option.some.injEq] at hj; subst hj; exact h0
    | 1, hj => simp only [List.getElem?_cons_succ, List.getElem?_cons_zero, Option.some.injEq] at hj; subst hj; exact h1
    | 2, hj => simp only [List.getElem?_cons_succ, List.getElem?_cons_zero, Option.some.injEq] at hj; subst hj; exact h2
    | 3, hj => simp only [List.getElem?_cons_succ, List.getElem?_cons_zero, Option.some.injEq] at hj; subst hj; exact h3
    | 4, hj => simp only [List.getElem?_cons_succ, List.getElem?_cons_zero, Option.some.injEq] at hj; subst hj; exact h4
    | 5, hj => simp only [List.getElem?_cons_succ, List.getElem?_cons_zero, Option.some.injEq] at hj; subst hj; exact h5
    | 6, hj => simp only [List.getElem?_cons_succ, List.getElem?_cons_zero, Option.some.injEq] at hj; subst hj; exact h6
    | 7, hj => simp only [List.getElem?_cons_succ, List.getElem?_cons_zero, Option.some.injEq] at hj; subst hj; exact h7
    | j + 8, hj =>
      simp only [List.getElem?_cons_succ] at hj
      have := hcc j u hj
      rw [show o + (j + 8) = o + (0 + 8) + j by omega]
      exact this
/-- Such cells lie as such a row. -/
theorem FxRow.at {ok : Nat → Prop} {w : World} {b : Nat} : ∀ {f : Fx} {cs : List Value} {o : Nat}, FxRow ok w f cs → (∀ j u, cs[j]? = some u → w.cell? ⟨b, o + j, none⟩ = some u) → FxAt ok w 0 b o f.bare
  | .nil, _, _, _, _ => trivial
  | .cons p k s n op ns x y z r, cs, o, ⟨vn, va, vb, vc, cr, e, hx, hr⟩, hc => by
    subst e
    refine fxAt_cons.2 ⟨rfl, hc 0 _ rfl, hc 1 _ rfl, hc 2 _ rfl, hc 3 _ rfl, ⟨vn, va, vb, vc, hc 4 _ rfl, hc 5 _ rfl, hc 6 _ rfl, hc 7 _ rfl, hx⟩, FxRow.at hr fun j u hj => ?_⟩
    rw [show o + (0 + 8) + j = o + (j + 8) by omega]
    exact hc (j + 8) u hj
/-- A row that the program has built reads as its expressions. -/
theorem FxRow.value {ok ok' : Nat → Prop} {w : World} {base n : Nat} {T : TypeId} {v : Value} {f : Fx} {cs : List Value} (h : FxRow ok w f cs) (hown : w.ownsRow base T 8 v n cs) (hn : n = f.len) (hok : ∀ b, ok b → ok' b) (hg : ∀ g, v.ownBlock = some g → ok' g) : FxV ok' w 0 v f.bare := by
  obtain ⟨hl, ho⟩ := hown
  rcases ho with ⟨rfl, h0⟩ | ⟨g, cap, cur, rfl, hgb, hh, hc, hm, hs, ht⟩
  · have : f = .nil := Fx.len_zero (by omega)
    subst this
    exact .inl ⟨rfl, _, _, rfl⟩
  · by_cases hf : f = .nil
    · subst hf
      subst hn
      exact .inl ⟨rfl, _, _, rfl⟩
    · subst hn
      have hne : f.bare ≠ .nil := fun e => hf (Fx.len_zero (by rw [← Fx.len_bare, e]; rfl))
      refine .inr ⟨hne, g, 0, cap, by rw [Fx.len_bare], hg g rfl, by rw [Fx.len_bare]; exact hc, hm, (h.keep (keep_le w hok)).at fun j u hj => ?_⟩
      have hlt : j < f.len * 8 := by
        have := (List.getElem?_eq_some_iff.1 hj).1
        omega
      rw [← ht, List.getElem?_take_of_lt hlt] at hj
      simp [World.cell?, hh]
      simpa using hj

/-! append of nothing onto nothing. -/
theorem run_append_nothing {P : Program} (w : World) (t ty e : TypeId) (i : TypeInfo) (ht : P.underlying t = some (.slice e)) (hi : P.info? e = some i) (A : Option Addr) (c : Nat) :
    (Builtin.append_ #[t, t] ty #[.slice none 0 0, .slice A 0 c]).run P w = .ok (.slice none 0 0) w := by
  cases A <;> simp [Builtin.append_, run_underlying ht, sizeOf, typeInfo, hi, Builtin.lenOf, Builtin.firstCells, loadCells, loadCellsFrom]
theorem wpList_append_nothing {P : Program} {w : World} {ops : Array Oper} {rest : List Oper} {o : Oper} {a : Act} {Q : Exit → Act → World → Prop} (hgd : o.guard = none) (s x : Operand) (t : TypeId)
    (ho : o.op = .call { callee := .builtin .append, args := #[s, x], argTypes := #[t, t] }) (e : TypeId) (i : TypeInfo) (ht : P.underlying t = some (.slice e)) (hi : P.info? e = some i)
    (hs : a.eval s = .slice none 0 0) (A : Option Addr) (c : Nat) (hx : a.eval x = .slice A 0 c) (h : wpList P ops Q rest (a.put o.dst (.slice none 0 0)) w) : wpList P ops Q (o :: rest) a w := by
  refine wpList_plain hgd fun _ hK => ?_
  unfold Oper.wp execOp
  simp only [ho, resolve, invoke, builtin, Sem.run_bind, Sem.run_pure, Result.andThen_ok, List.map_toArray, List.map_cons, List.map_nil, hs, hx, run_append_nothing w t o.type e i ht hi A c]
  exact hK _ _ h
theorem run_append_fx {P : Program} (w : World) (base : Nat) (t ty e : TypeId) (i : TypeInfo) (z : Value) (ht : P.underlying t = some (.slice e)) (hi : P.info? e = some i) (hz : i.zero = some z) (hsize : i.size = 8) (hby : i.bytes = 136)
    (hzs : z.cells.size = 8) {ok : Nat → Prop} {A : Option Addr} {c : Nat} {f : Fx} (hf : FxV ok w 0 (.slice A f.len c) f) (h63 : f.len ≤ 1048576) (hbase : base ≤ w.heap.size) :
    ∃ v' w' cs, (Builtin.append_ #[t, t] ty #[.slice none 0 0, .slice A f.len c]).run P w = .ok v' w' ∧ FxRow ok w f cs ∧ w'.ownsRow base e 8 v' f.len cs ∧ w.grownBy w' none := by
  by_cases h0 : f = .nil
  · subst h0
    exact ⟨_, w, [], run_append_nothing w t ty e i ht hi A c, rfl, World.ownsRow_nil _ _ _ _, ⟨rfl, rfl, rfl, Nat.le_refl _, fun _ _ _ => rfl⟩⟩
  · rcases hf with ⟨hf, _⟩ | ⟨_, b, o, cp, he, hb, hl, hc, ha⟩
    · exact absurd hf h0
    simp only [Value.slice.injEq, true_and] at he
    obtain ⟨rfl, rfl⟩ := he
    obtain ⟨cs, hr, hcs⟩ := fxAt_row ha
    have hpos : 0 < f.len := by
      rcases Nat.eq_zero_or_pos f.len with h | h
      · exact absurd (Fx.len_zero h) h0
      · exact h
    have hadd : ∀ k, (Addr.mk b o none).add k = ⟨b, o + k, none⟩ := fun k => by unfold Addr.add; split <;> simp_all
    obtain ⟨g, cap, w', h1, h2, h3, _⟩ := run_append_lies (P := P) w t ty base e i z 8 136 ht hi hz hsize hby hzs (by decide) (.slice none 0 0) 0 [] (World.ownsRow_nil _ _ _ _) ⟨b, o, none⟩ f.len c cs hr.length (fun j u hj => by rw [hadd]; exact hcs j u hj) hr.one hpos (by simp [maxLen]; omega) (by omega) hbase _ rfl
    rw [Nat.zero_add, List.nil_append] at h2
    rw [Nat.zero_add] at h1
    exact ⟨_, w', cs, h1, hr, h2, h3⟩
theorem wpList_append_fx {P : Program} {w : World} (base : Nat) {ops : Array Oper} {rest : List Oper} {o : Oper} {a : Act} {Q : Exit → Act → World → Prop} (hgd : o.guard = none) (s x : Operand) (t : TypeId)
    (ho : o.op = .call { callee := .builtin .append, args := #[s, x], argTypes := #[t, t] }) (e : TypeId) (i : TypeInfo) (z : Value) (ht : P.underlying t = some (.slice e)) (hi : P.info? e = some i) (hz : i.zero = some z) (hsize : i.size = 8) (hby : i.bytes = 136)
    (hzs : z.cells.size = 8) {ok : Nat → Prop} {A : Option Addr} {c : Nat} {f : Fx} (hs : a.eval s = .slice none 0 0) (hx : a.eval x = .slice A f.len c) (hf : FxV ok w 0 (.slice A f.len c) f) (h63 : f.len ≤ 1048576) (hbase : base ≤ w.heap.size)
    (h : ∀ v' w' cs, FxRow ok w f cs → w'.ownsRow base e 8 v' f.len cs → w.grownBy w' none → wpList P ops Q rest (a.put o.dst v') w') : wpList P ops Q (o :: rest) a w := by
  obtain ⟨v', w', cs, h1, h2, h3, h4⟩ := run_append_fx (P := P) w base t o.type e i z ht hi hz hsize hby hzs hf h63 hbase
  refine wpList_plain hgd fun _ hK => ?_
  unfold Oper.wp execOp
  simp only [ho, resolve, invoke, builtin, Sem.run_bind, Sem.run_pure, Result.andThen_ok, List.map_toArray, List.map_cons, List.map_nil, hs, hx, h1]
  exact hK _ _ (h v' w' cs h2 h3 h4)
theorem own_same {w w' : World} {base : Nat} {e : TypeId} {size : Nat} {v : Value} {n : Nat} {xs : List Value} (h : w.ownsRow base e size v n xs) (hb : ∀ q, v.ownBlock = some q → w'.heap[q]? = w.heap[q]?) : w'.ownsRow base e size v n xs := by
  obtain ⟨h1, h2⟩ := h
  refine ⟨h1, ?_⟩
  rcases h2 with h2 | ⟨g, cap, cur, rfl, hg, hh, r⟩
  · exact .inl h2
  · exact .inr ⟨g, cap, cur, rfl, hg, (hb g rfl).trans hh, r⟩
end Go.Proofs.Ytkdpojmbahjdjaa
