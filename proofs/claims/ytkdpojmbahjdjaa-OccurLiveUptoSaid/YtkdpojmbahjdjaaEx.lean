/- Expressions in memory: forests of expressions, binds and alternatives. No condition. -/
import Derived.WalkKit
import Derived.Lib.Strings
import Derived.Deep.Slices
namespace Go.Proofs.Ytkdpojmbahjdjaa.Ex0
open Go Go.RowKit

/-- A string of some bytes. -/
def bt (l : List UInt8) : ByteArray := ⟨l.toArray⟩
theorem bt_size (l : List UInt8) : (bt l).size = l.length := by simp [bt, ByteArray.size]
theorem bt_list (l : List UInt8) : (bt l).data.toList = l := rfl
theorem bt_toList (l : List UInt8) : (bt l).toList = l := Lib.toList_data _
theorem bt_of (s : ByteArray) : s = bt s.data.toList := by cases s; rfl
theorem bt_inj {l m : List UInt8} (h : bt l = bt m) : l = m := by
  have := congrArg (fun s => s.data.toList) h
  exact this
theorem bt_nil : (⟨#[]⟩ : ByteArray) = bt [] := rfl

/-- What stands ahead of an expression in a row. -/
inductive Pre where
  | no
  | bind (s : List UInt8)
  | alt (k : Int) (s : List UInt8) (n : Int) (ns : List (List UInt8))
  deriving DecidableEq

/-- A row of expressions, binds or alternatives, with all that is in them. -/
inductive Fx where
  | nil
  | cons (p : Pre) (k : Int) (s : List UInt8) (n op : Int) (ns : List (List UInt8)) (a b c rest : Fx)
  deriving DecidableEq

namespace Fx
def len : Fx → Nat
  | .nil => 0
  | .cons _ _ _ _ _ _ _ _ _ r => r.len + 1
/-- How many expressions there are in all. -/
def count : Fx → Nat
  | .nil => 0
  | .cons _ _ _ _ _ _ a b c r => 1 + (a.count + b.count + c.count) + r.count
def app : Fx → Fx → Fx
  | .nil, g => g
  | .cons p k s n op ns a b c r, g => .cons p k s n op ns a b c (r.app g)
/-- A row without what stands ahead of its expressions. -/
def bare : Fx → Fx
  | .nil => .nil
  | .cons _ k s n op ns a b c r => .cons .no k s n op ns a b c r.bare
theorem len_app (f g : Fx) : (f.app g).len = f.len + g.len := by
  induction f with
  | nil => simp [app, len]
  | cons p k s n op ns a b c r _ _ _ ih => simp only [app, len, ih]; omega
theorem app_nil (f : Fx) : f.app .nil = f := by
  induction f with
  | nil => rfl
  | cons p k s n op ns a b c r _ _ _ ih => simp only [app, ih]
theorem app_app (f g h : Fx) : (f.app g).app h = f.app (g.app h) := by
  induction f with
  | nil => rfl
  | cons p k s n op ns a b c r _ _ _ ih => simp only [app, ih]
theorem count_app (f g : Fx) : (f.app g).count = f.count + g.count := by
  induction f with
  | nil => simp [app, count]
  | cons p k s n op ns a b c r _ _ _ ih => simp only [app, count, ih]; omega
theorem len_le (f : Fx) : f.len ≤ f.count := by
  induction f with
  | nil => exact Nat.le_refl _
  | cons p k s n op ns a b c r _ _ _ ih => simp only [len, count]; omega
theorem len_zero {f : Fx} (h : f.len = 0) : f = .nil := by cases f with | nil => rfl | cons => simp [len] at h
theorem len_bare (f : Fx) : f.bare.len = f.len := by
  induction f with
  | nil => rfl
  | cons p k s n op ns a b c r _ _ _ ih => simp only [bare, len, ih]
theorem count_bare (f : Fx) : f.bare.count = f.count := by
  induction f with
  | nil => rfl
  | cons p k s n op ns a b c r _ _ _ ih => simp only [bare, count, ih]
theorem bare_app (f g : Fx) : (f.app g).bare = f.bare.app g.bare := by
  induction f with
  | nil => rfl
  | cons p k s n op ns a b c r _ _ _ ih => simp only [app, bare, ih]
/-- Where a place of two rows lies. -/
theorem app_split {f g f1 r : Fx} {p : Pre} {k : Int} {s : List UInt8} {n op : Int} {ns : List (List UInt8)} {a b c : Fx} (h : f.app g = f1.app (.cons p k s n op ns a b c r)) :
    (f1.len < f.len ∧ ∃ r', f = f1.app (.cons p k s n op ns a b c r')) ∨ (f.len ≤ f1.len ∧ ∃ g1, f1 = f.app g1 ∧ g = g1.app (.cons p k s n op ns a b c r)) := by
  induction f generalizing f1 with
  | nil => exact .inr ⟨Nat.zero_le _, f1, rfl, h⟩
  | cons p' k' s' n' op' ns' a' b' c' r' _ _ _ ih =>
    cases f1 with
    | nil =>
      simp only [app, Fx.cons.injEq] at h
      obtain ⟨rfl, rfl, rfl, rfl, rfl, rfl, rfl, rfl, rfl, _⟩ := h
      exact .inl ⟨by simp [len], r', rfl⟩
    | cons p2 k2 s2 n2 op2 ns2 a2 b2 c2 r2 =>
      simp only [app, Fx.cons.injEq] at h
      obtain ⟨rfl, rfl, rfl, rfl, rfl, rfl, rfl, rfl, rfl, h⟩ := h
      rcases ih h with ⟨hl, r3, rfl⟩ | ⟨hl, g1, rfl, rfl⟩
      · exact .inl ⟨by simp only [len]; omega, r3, rfl⟩
      · exact .inr ⟨by simp only [len]; omega, g1, rfl, rfl⟩
end Fx

/-- Strings in a row. -/
def NsAt (w : World) (b o : Nat) (ns : List (List UInt8)) : Prop := ∀ i (h : i < ns.length), w.cell? ⟨b, o + i, none⟩ = some (.string (bt ns[i]))
/-- A value that is a slice of strings, in a block that is ok. -/
def NsV (ok : Nat → Prop) (w : World) (v : Value) (ns : List (List UInt8)) : Prop :=
  (ns = [] ∧ ∃ a c, v = .slice a 0 c) ∨ (ns ≠ [] ∧ ∃ b o c, v = .slice (some ⟨b, o, none⟩) ns.length c ∧ ok b ∧ ns.length ≤ c ∧ c ≤ maxLen ∧ NsAt w b o ns)

/-- How many cells an element of a row takes ahead of its expression: 0 in rows of expressions, 1 of binds, 4 of alternatives. -/
def PreAt (ok : Nat → Prop) (w : World) (m b o : Nat) : Pre → Prop
  | .no => m = 0
  | .bind s => m = 1 ∧ w.cell? ⟨b, o, none⟩ = some (.string (bt s))
  | .alt k s n ns => m = 4 ∧ w.cell? ⟨b, o, none⟩ = some (.int .i64 k) ∧ w.cell? ⟨b, o + 1, none⟩ = some (.string (bt s)) ∧ w.cell? ⟨b, o + 2, none⟩ = some (.int .i64 n) ∧ ∃ v, w.cell? ⟨b, o + 3, none⟩ = some v ∧ NsV ok w v ns

/-- At a row's place lie expressions, each with its own, in blocks that are ok. -/
def FxAt (ok : Nat → Prop) (w : World) : Nat → Nat → Nat → Fx → Prop
  | _, _, _, .nil => True
  | m, b, o, .cons p k s n op ns f g h r => PreAt ok w m b o p ∧
      w.cell? ⟨b, o + m, none⟩ = some (.int .i64 k) ∧ w.cell? ⟨b, o + m + 1, none⟩ = some (.string (bt s)) ∧ w.cell? ⟨b, o + m + 2, none⟩ = some (.int .i64 n) ∧ w.cell? ⟨b, o + m + 3, none⟩ = some (.int .i64 op) ∧
      (∃ v, w.cell? ⟨b, o + m + 4, none⟩ = some v ∧ NsV ok w v ns) ∧
      (∃ v, w.cell? ⟨b, o + m + 5, none⟩ = some v ∧ ((f = .nil ∧ ∃ a c, v = .slice a 0 c) ∨ (f ≠ .nil ∧ ∃ b' o' c, v = .slice (some ⟨b', o', none⟩) f.len c ∧ ok b' ∧ f.len ≤ c ∧ c ≤ maxLen ∧ FxAt ok w 0 b' o' f))) ∧
      (∃ v, w.cell? ⟨b, o + m + 6, none⟩ = some v ∧ ((g = .nil ∧ ∃ a c, v = .slice a 0 c) ∨ (g ≠ .nil ∧ ∃ b' o' c, v = .slice (some ⟨b', o', none⟩) g.len c ∧ ok b' ∧ g.len ≤ c ∧ c ≤ maxLen ∧ FxAt ok w 1 b' o' g))) ∧
      (∃ v, w.cell? ⟨b, o + m + 7, none⟩ = some v ∧ ((h = .nil ∧ ∃ a c, v = .slice a 0 c) ∨ (h ≠ .nil ∧ ∃ b' o' c, v = .slice (some ⟨b', o', none⟩) h.len c ∧ ok b' ∧ h.len ≤ c ∧ c ≤ maxLen ∧ FxAt ok w 4 b' o' h))) ∧
      FxAt ok w m b (o + (m + 8)) r

/-- A value that is a slice of expressions (m is 0), of binds (1), of alternatives (4). -/
def FxV (ok : Nat → Prop) (w : World) (m : Nat) (v : Value) (f : Fx) : Prop :=
  (f = .nil ∧ ∃ a c, v = .slice a 0 c) ∨ (f ≠ .nil ∧ ∃ b o c, v = .slice (some ⟨b, o, none⟩) f.len c ∧ ok b ∧ f.len ≤ c ∧ c ≤ maxLen ∧ FxAt ok w m b o f)

/-- The four slices of an expression. -/
structure ExV (ok : Nat → Prop) (w : World) (vn va vb vc : Value) (ns : List (List UInt8)) (a b c : Fx) : Prop where
  ns : NsV ok w vn ns
  a : FxV ok w 0 va a
  b : FxV ok w 1 vb b
  c : FxV ok w 4 vc c

theorem fxAt_cons {ok : Nat → Prop} {w : World} {m b o : Nat} {p : Pre} {k : Int} {s : List UInt8} {n op : Int} {ns : List (List UInt8)} {f g h r : Fx} :
    FxAt ok w m b o (.cons p k s n op ns f g h r) ↔ PreAt ok w m b o p ∧ w.cell? ⟨b, o + m, none⟩ = some (.int .i64 k) ∧ w.cell? ⟨b, o + m + 1, none⟩ = some (.string (bt s)) ∧ w.cell? ⟨b, o + m + 2, none⟩ = some (.int .i64 n) ∧
      w.cell? ⟨b, o + m + 3, none⟩ = some (.int .i64 op) ∧ (∃ vn va vb vc, w.cell? ⟨b, o + m + 4, none⟩ = some vn ∧ w.cell? ⟨b, o + m + 5, none⟩ = some va ∧ w.cell? ⟨b, o + m + 6, none⟩ = some vb ∧ w.cell? ⟨b, o + m + 7, none⟩ = some vc ∧ ExV ok w vn va vb vc ns f g h) ∧
      FxAt ok w m b (o + (m + 8)) r := by
  constructor
  · rintro ⟨hp, h0, h1, h2, h3, ⟨vn, h4, hn⟩, ⟨va, h5, ha⟩, ⟨vb, h6, hb⟩, ⟨vc, h7, hc⟩, hr⟩
    exact ⟨hp, h0, h1, h2, h3, ⟨vn, va, vb, vc, h4, h5, h6, h7, hn, ha, hb, hc⟩, hr⟩
  · rintro ⟨hp, h0, h1, h2, h3, ⟨vn, va, vb, vc, h4, h5, h6, h7, hn, ha, hb, hc⟩, hr⟩
    exact ⟨hp, h0, h1, h2, h3, ⟨vn, h4, hn⟩, ⟨va, h5, ha⟩, ⟨vb, h6, hb⟩, ⟨vc, h7, hc⟩, hr⟩

/-- What keeps the cells of blocks that are ok keeps all that lies there. -/
def Keep (ok ok' : Nat → Prop) (w w' : World) : Prop := ∀ b, ok b → ok' b ∧ ∀ o, w'.cell? ⟨b, o, none⟩ = w.cell? ⟨b, o, none⟩

theorem NsV.keep {ok ok' : Nat → Prop} {w w' : World} (h : Keep ok ok' w w') {v : Value} {ns : List (List UInt8)} (hv : NsV ok w v ns) : NsV ok' w' v ns := by
  rcases hv with hv | ⟨hn, b, o, c, rfl, hb, hl, hc, ha⟩
  · exact .inl hv
  · exact .inr ⟨hn, b, o, c, rfl, (h b hb).1, hl, hc, fun i hi => ((h b hb).2 _).trans (ha i hi)⟩
theorem PreAt.keep {ok ok' : Nat → Prop} {w w' : World} (h : Keep ok ok' w w') {m b o : Nat} (hb : ok b) {p : Pre} (hp : PreAt ok w m b o p) : PreAt ok' w' m b o p := by
  cases p with
  | no => exact hp
  | bind s => exact ⟨hp.1, ((h b hb).2 _).trans hp.2⟩
  | alt k s n ns =>
    obtain ⟨hm, h0, h1, h2, v, h3, hv⟩ := hp
    exact ⟨hm, ((h b hb).2 _).trans h0, ((h b hb).2 _).trans h1, ((h b hb).2 _).trans h2, v, ((h b hb).2 _).trans h3, hv.keep h⟩
theorem FxAt.keep {ok ok' : Nat → Prop} {w w' : World} (h : Keep ok ok' w w') : ∀ {f : Fx} {m b o : Nat}, ok b → FxAt ok w m b o f → FxAt ok' w' m b o f
  | .nil, _, _, _, _, _ => trivial
  | .cons p k s n op ns f g j r, m, b, o, hb, ⟨hp, h0, h1, h2, h3, ⟨vn, h4, hn⟩, ⟨va, h5, ha⟩, ⟨vb, h6, hbb⟩, ⟨vc, h7, hc⟩, hr⟩ => by
    have q := (h b hb).2
    refine ⟨hp.keep h hb, (q _).trans h0, (q _).trans h1, (q _).trans h2, (q _).trans h3, ⟨vn, (q _).trans h4, hn.keep h⟩, ⟨va, (q _).trans h5, ?_⟩, ⟨vb, (q _).trans h6, ?_⟩, ⟨vc, (q _).trans h7, ?_⟩, FxAt.keep h hb hr⟩
    · rcases ha with ha | ⟨hn, b', o', c, rfl, hb2, hl, hcm, hf⟩
      · exact .inl ha
      · exact .inr ⟨hn, b', o', c, rfl, (h b' hb2).1, hl, hcm, FxAt.keep h hb2 hf⟩
    · rcases hbb with ha | ⟨hn, b', o', c, rfl, hb2, hl, hcm, hf⟩
      · exact .inl ha
      · exact .inr ⟨hn, b', o', c, rfl, (h b' hb2).1, hl, hcm, FxAt.keep h hb2 hf⟩
    · rcases hc with ha | ⟨hn, b', o', c, rfl, hb2, hl, hcm, hf⟩
      · exact .inl ha
      · exact .inr ⟨hn, b', o', c, rfl, (h b' hb2).1, hl, hcm, FxAt.keep h hb2 hf⟩
theorem FxV.keep {ok ok' : Nat → Prop} {w w' : World} (h : Keep ok ok' w w') {m : Nat} {v : Value} {f : Fx} (hv : FxV ok w m v f) : FxV ok' w' m v f := by
  rcases hv with hv | ⟨hn, b, o, c, rfl, hb, hl, hc, hf⟩
  · exact .inl hv
  · exact .inr ⟨hn, b, o, c, rfl, (h b hb).1, hl, hc, hf.keep h hb⟩
theorem ExV.keep {ok ok' : Nat → Prop} {w w' : World} (h : Keep ok ok' w w') {vn va vb vc : Value} {ns : List (List UInt8)} {a b c : Fx} (hv : ExV ok w vn va vb vc ns a b c) : ExV ok' w' vn va vb vc ns a b c :=
  ⟨hv.ns.keep h, hv.a.keep h, hv.b.keep h, hv.c.keep h⟩

/-- All blocks that are there. -/
def Old (B : Nat) : Nat → Prop := fun b => b < B
theorem keep_below {ok : Nat → Prop} {B : Nat} {w w' : World} (h : Below B w w') (hok : ∀ b, ok b → b < B) : Keep ok ok w w' := fun b hb => ⟨hb, fun o => h.cell (p := ⟨b, o, none⟩) (hok b hb)⟩
theorem keep_le {ok ok' : Nat → Prop} (w : World) (h : ∀ b, ok b → ok' b) : Keep ok ok' w w := fun b hb => ⟨h b hb, fun _ => rfl⟩

theorem NsV.slice {ok : Nat → Prop} {w : World} {v : Value} {ns : List (List UInt8)} (h : NsV ok w v ns) : ∃ a c, v = .slice a ns.length c := by
  rcases h with ⟨rfl, a, c, rfl⟩ | ⟨_, b, o, c, rfl, _⟩
  · exact ⟨a, c, rfl⟩
  · exact ⟨_, _, rfl⟩
theorem FxV.slice {ok : Nat → Prop} {w : World} {m : Nat} {v : Value} {f : Fx} (h : FxV ok w m v f) : ∃ a c, v = .slice a f.len c := by
  rcases h with ⟨rfl, a, c, rfl⟩ | ⟨_, b, o, c, rfl, _⟩
  · exact ⟨a, c, rfl⟩
  · exact ⟨_, _, rfl⟩
theorem FxAt.app {ok : Nat → Prop} {w : World} {m b : Nat} : ∀ {f g : Fx} {o : Nat}, FxAt ok w m b o (f.app g) ↔ FxAt ok w m b o f ∧ FxAt ok w m b (o + f.len * (m + 8)) g
  | .nil, g, o => by simp [Fx.app, Fx.len, FxAt]
  | .cons p k s n op ns f1 f2 f3 r, g, o => by
    have ih := FxAt.app (ok := ok) (w := w) (m := m) (b := b) (f := r) (g := g) (o := o + (m + 8))
    have e : o + (m + 8) + r.len * (m + 8) = o + (r.len + 1) * (m + 8) := by rw [Nat.add_mul, Nat.one_mul]; omega
    rw [e] at ih
    simp only [Fx.app, Fx.len]
    rw [fxAt_cons, fxAt_cons, ih]
    constructor
    · rintro ⟨hp, h0, h1, h2, h3, h4, h5, h6⟩
      exact ⟨⟨hp, h0, h1, h2, h3, h4, h5⟩, h6⟩
    · rintro ⟨⟨hp, h0, h1, h2, h3, h4, h5⟩, h6⟩
      exact ⟨hp, h0, h1, h2, h3, h4, h5, h6⟩

/-- What stands at a place of a row. -/
theorem fx_at {ok : Nat → Prop} {w : World} {m : Nat} {ao : Option Addr} {cp : Nat} {f f1 r : Fx} {p : Pre} {k : Int} {s : List UInt8} {n op : Int} {ns : List (List UInt8)} {a b c : Fx} (hv : FxV ok w m (.slice ao f.len cp) f)
    (hf : f = f1.app (.cons p k s n op ns a b c r)) :
    ∃ bb o vn va vb vc, ao = some ⟨bb, o, none⟩ ∧ ok bb ∧ f.len ≤ cp ∧ cp ≤ maxLen ∧ f1.len < f.len ∧ PreAt ok w m bb (o + f1.len * (m + 8)) p ∧
      w.cell? ⟨bb, o + f1.len * (m + 8) + m, none⟩ = some (.int .i64 k) ∧ w.cell? ⟨bb, o + f1.len * (m + 8) + m + 1, none⟩ = some (.string (bt s)) ∧ w.cell? ⟨bb, o + f1.len * (m + 8) + m + 2, none⟩ = some (.int .i64 n) ∧
      w.cell? ⟨bb, o + f1.len * (m + 8) + m + 3, none⟩ = some (.int .i64 op) ∧ w.cell? ⟨bb, o + f1.len * (m + 8) + m + 4, none⟩ = some vn ∧ w.cell? ⟨bb, o + f1.len * (m + 8) + m + 5, none⟩ = some va ∧
      w.cell? ⟨bb, o + f1.len * (m + 8) + m + 6, none⟩ = some vb ∧ w.cell? ⟨bb, o + f1.len * (m + 8) + m + 7, none⟩ = some vc ∧ ExV ok w vn va vb vc ns a b c := by
  have hne : f ≠ .nil := by rw [hf]; cases f1 <;> simp [Fx.app]
  rcases hv with ⟨h, _⟩ | ⟨_, bb, o, c', he, hb, hl, hc, ha⟩
  · exact absurd h hne
  simp only [Value.slice.injEq, true_and] at he
  obtain ⟨rfl, rfl⟩ := he
  have hlen : f.len = f1.len + (r.len + 1) := by rw [hf, Fx.len_app]; rfl
  rw [hf, FxAt.app, fxAt_cons] at ha
  obtain ⟨_, hp, h0, h1, h2, h3, ⟨vn, va, vb, vc, h4, h5, h6, h7, hx⟩, _⟩ := ha
  exact ⟨bb, o, vn, va, vb, vc, rfl, hb, hl, hc, by omega, hp, h0, h1, h2, h3, h4, h5, h6, h7, hx⟩
end Go.Proofs.Ytkdpojmbahjdjaa.Ex0
