/- Expressions in memory: forests of expressions, binds and alternatives. No condition. -/
import Derived.WalkKit
import Derived.Lib.Strings
import Derived.Deep.Slices
import Derived.Test.YtfcogjlojfcfkaaGreatChecked
import Derived.WalkSpells
import Derived.Lib.Walk
import Derived.Lib.Hide
import Derived.BigQuiet
import Derived.Deep.QuietTactic
import Derived.Deep.Cut
import Derived.Deep.CutBlock
import Derived.Deep.DeepCutAuto
import Derived.WalkSmall
import Derived.OwnWalk
import Derived.Deep.AppendLies
section
namespace Go.Proofs.YtfcogjlojfcfkaaGreat.Ex0
open Go Go.RowKit

/-- A string of some bytes. -/
def bt (l : List UInt8) : ByteArray := ⟨l.toArray⟩
theorem bt_size (l : List UInt8) : (bt l).size = l.length := by simp [bt, ByteArray.size]
theorem bt_list (l : List UInt8) : (bt l).data.toList = l := rfl
theorem bt_toList (l : List UInt8) : (bt l).toList = l := Lib.toList_data _
theorem bt_of (s : ByteArray) : s = bt s.data.toList := by cases s; rfl
theorem bt_inj {l m : List UInt8} (h : bt l = bt m) : l = m := by
  have := congrArg (fun s => s.data.toList) h
  exact this
theorem bt_nil : (⟨#[]⟩ : ByteArray) = bt [] := rfl

/-- What stands ahead of an expression in a row. -/
inductive Pre where
  | no
  | bind (s : List UInt8)
  | alt (k : Int) (s : List UInt8) (n : Int) (ns : List (List UInt8))
  deriving DecidableEq

/-- A row of expressions, binds or alternatives, with all that is in them. -/
inductive Fx where
  | nil
  | cons (p : Pre) (k : Int) (s : List UInt8) (n op : Int) (ns : List (List UInt8)) (a b c rest : Fx)
  deriving DecidableEq

namespace Fx
def len : Fx → Nat
  | .nil => 0
  | .cons _ _ _ _ _ _ _ _ _ r => r.len + 1
/-- How many expressions there are in all. -/
def count : Fx → Nat
  | .nil => 0
  | .cons _ _ _ _ _ _ a b c r => 1 + (a.count + b.count + c.count) + r.count
def app : Fx → Fx → Fx
  | .nil, g => g
  | .cons p k s n op ns a b c r, g => .cons p k s n op ns a b c (r.app g)
/-- A row without what stands ahead of its expressions. -/
def bare : Fx → Fx
  | .nil => .nil
  | .cons _ k s n op ns a b c r => .cons .no k s n op ns a b c r.bare
theorem len_app (f g : Fx) : (f.app g).len = f.len + g.len := by
  induction f with
  | nil => simp [app, len]
  | cons p k s n op ns a b c r _ _ _ ih => simp only [app, len, ih]; omega
theorem app_nil (f : Fx) : f.app .nil = f := by
  induction f with
  | nil => rfl
  | cons p k s n op ns a b c r _ _ _ ih => simp only [app, ih]
theorem app_app (f g h : Fx) : (f.app g).app h = f.app (g.app h) := by
  induction f with
  | nil => rfl
  | cons p k s n op ns a b c r _ _ _ ih => simp only [app, ih]
theorem count_app (f g : Fx) : (f.app g).count = f.count + g.count := by
  induction f with
  | nil => simp [app, count]
  | cons p k s n op ns a b c r _ _ _ ih => simp only [app, count, ih]; omega
theorem len_le (f : Fx) : f.len ≤ f.count := by
  induction f with
  | nil => exact Nat.le_refl _
  | cons p k s n op ns a b c r _ _ _ ih => simp only [len, count]; omega
theorem len_zero {f : Fx} (h : f.len = 0) : f = .nil := by cases f with | nil => rfl | cons => simp [len] at h
theorem len_bare (f : Fx) : f.bare.len = f.len := by
  induction f with
  | nil => rfl
  | cons p k s n op ns a b c r _ _ _ ih => simp only [bare, len, ih]
theorem count_bare (f : Fx) : f.bare.count = f.count := by
  induction f with
  | nil => rfl
  | cons p k s n op ns a b c r _ _ _ ih => simp only [bare, count, ih]
theorem bare_app (f g : Fx) : (f.app g).bare = f.bare.app g.bare := by
  induction f with
  | nil => rfl
  | cons p k s n op ns a b c r _ _ _ ih => simp only [app, bare, ih]
/-- Where a place of two rows lies. -/
theorem app_split {f g f1 r : Fx} {p : Pre} {k : Int} {s : List UInt8} {n op : Int} {ns : List (List UInt8)} {a b c : Fx} (h : f.app g = f1.app (.cons p k s n op ns a b c r)) :
    (f1.len < f.len ∧ ∃ r', f = f1.app (.cons p k s n op ns a b c r')) ∨ (f.len ≤ f1.len ∧ ∃ g1, f1 = f.app g1 ∧ g = g1.app (.cons p k s n op ns a b c r)) := by
  induction f generalizing f1 with
  | nil => exact .inr ⟨Nat.zero_le _, f1, rfl, h⟩
  | cons p' k' s' n' op' ns' a' b' c' r' _ _ _ ih =>
    cases f1 with
    | nil =>
      simp only [app, Fx.cons.injEq] at h
      obtain ⟨rfl, rfl, rfl, rfl, rfl, rfl, rfl, rfl, rfl, _⟩ := h
      exact .inl ⟨by simp [len], r', rfl⟩
    | cons p2 k2 s2 n2 op2 ns2 a2 b2 c2 r2 =>
      simp only [app, Fx.cons.injEq] at h
      obtain ⟨rfl, rfl, rfl, rfl, rfl, rfl, rfl, rfl, rfl, h⟩ := h
      rcases ih h with ⟨hl, r3, rfl⟩ | ⟨hl, g1, rfl, rfl⟩
      · exact .inl ⟨by simp only [len]; omega, r3, rfl⟩
      · exact .inr ⟨by simp only [len]; omega, g1, rfl, rfl⟩
end Fx

/-- Strings in a row. -/
def NsAt (w : World) (b o : Nat) (ns : List (List UInt8)) : Prop := ∀ i (h : i < ns.length), w.cell? ⟨b, o + i, none⟩ = some (.string (bt ns[i]))
/-- A value that is a slice of strings, in a block that is ok. -/
def NsV (ok : Nat → Prop) (w : World) (v : Value) (ns : List (List UInt8)) : Prop :=
  (ns = [] ∧ ∃ a c, v = .slice a 0 c) ∨ (ns ≠ [] ∧ ∃ b o c, v = .slice (some ⟨b, o, none⟩) ns.length c ∧ ok b ∧ ns.length ≤ c ∧ c ≤ maxLen ∧ NsAt w b o ns)

/-- How many cells an element of a row takes ahead of its expression: 0 in rows of expressions, 1 of binds, 4 of alternatives. -/
def PreAt (ok : Nat → Prop) (w : World) (m b o : Nat) : Pre → Prop
  | .no => m = 0
  | .bind s => m = 1 ∧ w.cell? ⟨b, o, none⟩ = some (.string (bt s))
  | .alt k s n ns => m = 4 ∧ w.cell? ⟨b, o, none⟩ = some (.int .i64 k) ∧ w.cell? ⟨b, o + 1, none⟩ = some (.string (bt s)) ∧ w.cell? ⟨b, o + 2, none⟩ = some (.int .i64 n) ∧ ∃ v, w.cell? ⟨b, o + 3, none⟩ = some v ∧ NsV ok w v ns

/-- At a row's place lie expressions, each with its own, in blocks that are ok. -/
def FxAt (ok : Nat → Prop) (w : World) : Nat → Nat → Nat → Fx → Prop
  | _, _, _, .nil => True
  | m, b, o, .cons p k s n op ns f g h r => PreAt ok w m b o p ∧
      w.cell? ⟨b, o + m, none⟩ = some (.int .i64 k) ∧ w.cell? ⟨b, o + m + 1, none⟩ = some (.string (bt s)) ∧ w.cell? ⟨b, o + m + 2, none⟩ = some (.int .i64 n) ∧ w.cell? ⟨b, o + m + 3, none⟩ = some (.int .i64 op) ∧
      (∃ v, w.cell? ⟨b, o + m + 4, none⟩ = some v ∧ NsV ok w v ns) ∧
      (∃ v, w.cell? ⟨b, o + m + 5, none⟩ = some v ∧ ((f = .nil ∧ ∃ a c, v = .slice a 0 c) ∨ (f ≠ .nil ∧ ∃ b' o' c, v = .slice (some ⟨b', o', none⟩) f.len c ∧ ok b' ∧ f.len ≤ c ∧ c ≤ maxLen ∧ FxAt ok w 0 b' o' f))) ∧
      (∃ v, w.cell? ⟨b, o + m + 6, none⟩ = some v ∧ ((g = .nil ∧ ∃ a c, v = .slice a 0 c) ∨ (g ≠ .nil ∧ ∃ b' o' c, v = .slice (some ⟨b', o', none⟩) g.len c ∧ ok b' ∧ g.len ≤ c ∧ c ≤ maxLen ∧ FxAt ok w 1 b' o' g))) ∧
      (∃ v, w.cell? ⟨b, o + m + 7, none⟩ = some v ∧ ((h = .nil ∧ ∃ a c, v = .slice a 0 c) ∨ (h ≠ .nil ∧ ∃ b' o' c, v = .slice (some ⟨b', o', none⟩) h.len c ∧ ok b' ∧ h.len ≤ c ∧ c ≤ maxLen ∧ FxAt ok w 4 b' o' h))) ∧
      FxAt ok w m b (o + (m + 8)) r

/-- A value that is a slice of expressions (m is 0), of binds (1), of alternatives (4). -/
def FxV (ok : Nat → Prop) (w : World) (m : Nat) (v : Value) (f : Fx) : Prop :=
  (f = .nil ∧ ∃ a c, v = .slice a 0 c) ∨ (f ≠ .nil ∧ ∃ b o c, v = .slice (some ⟨b, o, none⟩) f.len c ∧ ok b ∧ f.len ≤ c ∧ c ≤ maxLen ∧ FxAt ok w m b o f)

/-- The four slices of an expression. -/
structure ExV (ok : Nat → Prop) (w : World) (vn va vb vc : Value) (ns : List (List UInt8)) (a b c : Fx) : Prop where
  ns : NsV ok w vn ns
  a : FxV ok w 0 va a
  b : FxV ok w 1 vb b
  c : FxV ok w 4 vc c

theorem fxAt_cons {ok : Nat → Prop} {w : World} {m b o : Nat} {p : Pre} {k : Int} {s : List UInt8} {n op : Int} {ns : List (List UInt8)} {f g h r : Fx} :
    FxAt ok w m b o (.cons p k s n op ns f g h r) ↔ PreAt ok w m b o p ∧ w.cell? ⟨b, o + m, none⟩ = some (.int .i64 k) ∧ w.cell? ⟨b, o + m + 1, none⟩ = some (.string (bt s)) ∧ w.cell? ⟨b, o + m + 2, none⟩ = some (.int .i64 n) ∧
      w.cell? ⟨b, o + m + 3, none⟩ = some (.int .i64 op) ∧ (∃ vn va vb vc, w.cell? ⟨b, o + m + 4, none⟩ = some vn ∧ w.cell? ⟨b, o + m + 5, none⟩ = some va ∧ w.cell? ⟨b, o + m + 6, none⟩ = some vb ∧ w.cell? ⟨b, o + m + 7, none⟩ = some vc ∧ ExV ok w vn va vb vc ns f g h) ∧
      FxAt ok w m b (o + (m + 8)) r := by
  constructor
  · rintro ⟨hp, h0, h1, h2, h3, ⟨vn, h4, hn⟩, ⟨va, h5, ha⟩, ⟨vb, h6, hb⟩, ⟨vc, h7, hc⟩, hr⟩
    exact ⟨hp, h0, h1, h2, h3, ⟨vn, va, vb, vc, h4, h5, h6, h7, hn, ha, hb, hc⟩, hr⟩
  · rintro ⟨hp, h0, h1, h2, h3, ⟨vn, va, vb, vc, h4, h5, h6, h7, hn, ha, hb, hc⟩, hr⟩
    exact ⟨hp, h0, h1, h2, h3, ⟨vn, h4, hn⟩, ⟨va, h5, ha⟩, ⟨vb, h6, hb⟩, ⟨vc, h7, hc⟩, hr⟩

/-- What keeps the cells of blocks that are ok keeps all that lies there. -/
def Keep (ok ok' : Nat → Prop) (w w' : World) : Prop := ∀ b, ok b → ok' b ∧ ∀ o, w'.cell? ⟨b, o, none⟩ = w.cell? ⟨b, o, none⟩

theorem NsV.keep {ok ok' : Nat → Prop} {w w' : World} (h : Keep ok ok' w w') {v : Value} {ns : List (List UInt8)} (hv : NsV ok w v ns) : NsV ok' w' v ns := by
  rcases hv with hv | ⟨hn, b, o, c, rfl, hb, hl, hc, ha⟩
  · exact .inl hv
  · exact .inr ⟨hn, b, o, c, rfl, (h b hb).1, hl, hc, fun i hi => ((h b hb).2 _).trans (ha i hi)⟩
theorem PreAt.keep {ok ok' : Nat → Prop} {w w' : World} (h : Keep ok ok' w w') {m b o : Nat} (hb : ok b) {p : Pre} (hp : PreAt ok w m b o p) : PreAt ok' w' m b o p := by
  cases p with
  | no => exact hp
  | bind s => exact ⟨hp.1, ((h b hb).2 _).trans hp.2⟩
  | alt k s n ns =>
    obtain ⟨hm, h0, h1, h2, v, h3, hv⟩ := hp
    exact ⟨hm, ((h b hb).2 _).trans h0, ((h b hb).2 _).trans h1, ((h b hb).2 _).trans h2, v, ((h b hb).2 _).trans h3, hv.keep h⟩
theorem FxAt.keep {ok ok' : Nat → Prop} {w w' : World} (h : Keep ok ok' w w') : ∀ {f : Fx} {m b o : Nat}, ok b → FxAt ok w m b o f → FxAt ok' w' m b o f
  | .nil, _, _, _, _, _ => trivial
  | .cons p k s n op ns f g j r, m, b, o, hb, ⟨hp, h0, h1, h2, h3, ⟨vn, h4, hn⟩, ⟨va, h5, ha⟩, ⟨vb, h6, hbb⟩, ⟨vc, h7, hc⟩, hr⟩ => by
    have q := (h b hb).2
    refine ⟨hp.keep h hb, (q _).trans h0, (q _).trans h1, (q _).trans h2, (q _).trans h3, ⟨vn, (q _).trans h4, hn.keep h⟩, ⟨va, (q _).trans h5, ?_⟩, ⟨vb, (q _).trans h6, ?_⟩, ⟨vc, (q _).trans h7, ?_⟩, FxAt.keep h hb hr⟩
    · rcases ha with ha | ⟨hn, b', o', c, rfl, hb2, hl, hcm, hf⟩
      · exact .inl ha
      · exact .inr ⟨hn, b', o', c, rfl, (h b' hb2).1, hl, hcm, FxAt.keep h hb2 hf⟩
    · rcases hbb with ha | ⟨hn, b', o', c, rfl, hb2, hl, hcm, hf⟩
      · exact .inl ha
      · exact .inr ⟨hn, b', o', c, rfl, (h b' hb2).1, hl, hcm, FxAt.keep h hb2 hf⟩
    · rcases hc with ha | ⟨hn, b', o', c, rfl, hb2, hl, hcm, hf⟩
      · exact .inl ha
      · exact .inr ⟨hn, b', o', c, rfl, (h b' hb2).1, hl, hcm, FxAt.keep h hb2 hf⟩
theorem FxV.keep {ok ok' : Nat → Prop} {w w' : World} (h : Keep ok ok' w w') {m : Nat} {v : Value} {f : Fx} (hv : FxV ok w m v f) : FxV ok' w' m v f := by
  rcases hv with hv | ⟨hn, b, o, c, rfl, hb, hl, hc, hf⟩
  · exact .inl hv
  · exact .inr ⟨hn, b, o, c, rfl, (h b hb).1, hl, hc, hf.keep h hb⟩
theorem ExV.keep {ok ok' : Nat → Prop} {w w' : World} (h : Keep ok ok' w w') {vn va vb vc : Value} {ns : List (List UInt8)} {a b c : Fx} (hv : ExV ok w vn va vb vc ns a b c) : ExV ok' w' vn va vb vc ns a b c :=
  ⟨hv.ns.keep h, hv.a.keep h, hv.b.keep h, hv.c.keep h⟩

/-- All blocks that are there. -/
def Old (B : Nat) : Nat → Prop := fun b => b < B
theorem keep_below {ok : Nat → Prop} {B : Nat} {w w' : World} (h : Below B w w') (hok : ∀ b, ok b → b < B) : Keep ok ok w w' := fun b hb => ⟨hb, fun o => h.cell (p := ⟨b, o, none⟩) (hok b hb)⟩
theorem keep_le {ok ok' : Nat → Prop} (w : World) (h : ∀ b, ok b → ok' b) : Keep ok ok' w w := fun b hb => ⟨h b hb, fun _ => rfl⟩

theorem NsV.slice {ok : Nat → Prop} {w : World} {v : Value} {ns : List (List UInt8)} (h : NsV ok w v ns) : ∃ a c, v = .slice a ns.length c := by
  rcases h with ⟨rfl, a, c, rfl⟩ | ⟨_, b, o, c, rfl, _⟩
  · exact ⟨a, c, rfl⟩
  · exact ⟨_, _, rfl⟩
theorem FxV.slice {ok : Nat → Prop} {w : World} {m : Nat} {v : Value} {f : Fx} (h : FxV ok w m v f) : ∃ a c, v = .slice a f.len c := by
  rcases h with ⟨rfl, a, c, rfl⟩ | ⟨_, b, o, c, rfl, _⟩
  · exact ⟨a, c, rfl⟩
  · exact ⟨_, _, rfl⟩
theorem FxAt.app {ok : Nat → Prop} {w : World} {m b : Nat} : ∀ {f g : Fx} {o : Nat}, FxAt ok w m b o (f.app g) ↔ FxAt ok w m b o f ∧ FxAt ok w m b (o + f.len * (m + 8)) g
  | .nil, g, o => by simp [Fx.app, Fx.len, FxAt]
  | .cons p k s n op ns f1 f2 f3 r, g, o => by
    have ih := FxAt.app (ok := ok) (w := w) (m := m) (b := b) (f := r) (g := g) (o := o + (m + 8))
    have e : o + (m + 8) + r.len * (m + 8) = o + (r.len + 1) * (m + 8) := by rw [Nat.add_mul, Nat.one_mul]; omega
    rw [e] at ih
    simp only [Fx.app, Fx.len]
    rw [fxAt_cons, fxAt_cons, ih]
    constructor
    · rintro ⟨hp, h0, h1, h2, h3, h4, h5, h6⟩
      exact ⟨⟨hp, h0, h1, h2, h3, h4, h5⟩, h6⟩
    · rintro ⟨⟨hp, h0, h1, h2, h3, h4, h5⟩, h6⟩
      exact ⟨hp, h0, h1, h2, h3, h4, h5, h6⟩

/-- What stands at a place of a row. -/
theorem fx_at {ok : Nat → Prop} {w : World} {m : Nat} {ao : Option Addr} {cp : Nat} {f f1 r : Fx} {p : Pre} {k : Int} {s : List UInt8} {n op : Int} {ns : List (List UInt8)} {a b c : Fx} (hv : FxV ok w m (.slice ao f.len cp) f)
    (hf : f = f1.app (.cons p k s n op ns a b c r)) :
    ∃ bb o vn va vb vc, ao = some ⟨bb, o, none⟩ ∧ ok bb ∧ f.len ≤ cp ∧ cp ≤ maxLen ∧ f1.len < f.len ∧ PreAt ok w m bb (o + f1.len * (m + 8)) p ∧
      w.cell? ⟨bb, o + f1.len * (m + 8) + m, none⟩ = some (.int .i64 k) ∧ w.cell? ⟨bb, o + f1.len * (m + 8) + m + 1, none⟩ = some (.string (bt s)) ∧ w.cell? ⟨bb, o + f1.len * (m + 8) + m + 2, none⟩ = some (.int .i64 n) ∧
      w.cell? ⟨bb, o + f1.len * (m + 8) + m + 3, none⟩ = some (.int .i64 op) ∧ w.cell? ⟨bb, o + f1.len * (m + 8) + m + 4, none⟩ = some vn ∧ w.cell? ⟨bb, o + f1.len * (m + 8) + m + 5, none⟩ = some va ∧
      w.cell? ⟨bb, o + f1.len * (m + 8) + m + 6, none⟩ = some vb ∧ w.cell? ⟨bb, o + f1.len * (m + 8) + m + 7, none⟩ = some vc ∧ ExV ok w vn va vb vc ns a b c := by
  have hne : f ≠ .nil := by rw [hf]; cases f1 <;> simp [Fx.app]
  rcases hv with ⟨h, _⟩ | ⟨_, bb, o, c', he, hb, hl, hc, ha⟩
  · exact absurd h hne
  simp only [Value.slice.injEq, true_and] at he
  obtain ⟨rfl, rfl⟩ := he
  have hlen : f.len = f1.len + (r.len + 1) := by rw [hf, Fx.len_app]; rfl
  rw [hf, FxAt.app, fxAt_cons] at ha
  obtain ⟨_, hp, h0, h1, h2, h3, ⟨vn, va, vb, vc, h4, h5, h6, h7, hx⟩, _⟩ := ha
  exact ⟨bb, o, vn, va, vb, vc, rfl, hb, hl, hc, by omega, hp, h0, h1, h2, h3, h4, h5, h6, h7, hx⟩
end Go.Proofs.YtfcogjlojfcfkaaGreat.Ex0
end

section
namespace Go.Proofs.YtfcogjlojfcfkaaGreat
open Go.RowKit Ex0

theorem blwS {w a b : World} {B : Nat} (h : Below B w a) (k : Below a.heap.size a b) (hB : B ≤ a.heap.size) : Below B w b := h.trans (k.mono hB)
theorem below_alloc' (w : World) (o : Obj) : Below w.heap.size w (w.alloc o) := (Below.refl _ _).alloc (Nat.le_refl _) o
theorem bcell {W w1 : World} {B : Nat} (hb : Below B W w1) : (∀ b o, b < B → w1.cell? ⟨b, o, none⟩ = W.cell? ⟨b, o, none⟩) ∧ (∀ b o, b < B → w1.frozen? ⟨b, o, none⟩ = W.frozen? ⟨b, o, none⟩) :=
  ⟨fun b o h => hb.cell (p := ⟨b, o, none⟩) h, fun b o h => hb.frozen (p := ⟨b, o, none⟩) h⟩
theorem below_old {w wr : World} {o : Obj} (h : Below (w.heap.size + 1) (w.alloc o) wr) : Below w.heap.size w wr := (below_alloc' w o).trans (h.mono (Nat.le_succ _))

/-- An expression's box. -/
def exBox (k : Int) (s : List UInt8) (n op : Int) (vn va vb vc : Value) : Obj := .cells #[.int .i64 k, .string (bt s), .int .i64 n, .int .i64 op, vn, va, vb, vc] 27
/-- An expression's value. -/
def exV (k : Int) (s : List UInt8) (n op : Int) (vn va vb vc : Value) : Value := .agg #[.int .i64 k, .string (bt s), .int .i64 n, .int .i64 op, vn, va, vb, vc]

theorem exBox_cell {B : Nat} {w wr : World} {k : Int} {s : List UInt8} {n op : Int} {vn va vb vc : Value} (hB : w.heap.size < B) (hb : Below B (w.alloc (exBox k s n op vn va vb vc)) wr) :
    wr.cell? ⟨w.heap.size, 0, none⟩ = some (.int .i64 k) ∧ wr.cell? ⟨w.heap.size, 1, none⟩ = some (.string (bt s)) ∧ wr.cell? ⟨w.heap.size, 2, none⟩ = some (.int .i64 n) ∧ wr.cell? ⟨w.heap.size, 3, none⟩ = some (.int .i64 op) ∧
    wr.cell? ⟨w.heap.size, 4, none⟩ = some vn ∧ wr.cell? ⟨w.heap.size, 5, none⟩ = some va ∧ wr.cell? ⟨w.heap.size, 6, none⟩ = some vb ∧ wr.cell? ⟨w.heap.size, 7, none⟩ = some vc := by
  have h := fun o => hb.cell (p := ⟨w.heap.size, o, none⟩) hB
  unfold exBox at h
  exact ⟨(h 0).trans (by simp [go_sem]), (h 1).trans (by simp [go_sem]), (h 2).trans (by simp [go_sem]), (h 3).trans (by simp [go_sem]), (h 4).trans (by simp [go_sem]), (h 5).trans (by simp [go_sem]), (h 6).trans (by simp [go_sem]), (h 7).trans (by simp [go_sem])⟩

/-- Behind an allocation old cells are as they were. -/
theorem cell_al {w : World} {b o : Nat} {v : Value} (hb : b < w.heap.size) (h : w.cell? ⟨b, o, none⟩ = some v) : ∀ z : Obj, (w.alloc z).cell? ⟨b, o, none⟩ = some v :=
  fun z => ((below_alloc' w z).cell (p := ⟨b, o, none⟩) hb).trans h

theorem keep_up {n : Nat} {w w' : World} (h : Below w.heap.size w w') (hn : n ≤ w.heap.size) : Keep (Old n) (Old w'.heap.size) w w' :=
  fun b hb => ⟨Nat.lt_of_lt_of_le (Nat.lt_of_lt_of_le hb hn) h.size, fun o => h.cell (p := ⟨b, o, none⟩) (Nat.lt_of_lt_of_le hb hn)⟩

/-- All parts of an expression, one behind the other. -/
def parts (a b c : Fx) : Fx := a.app (b.app c)
theorem parts_len (a b c : Fx) : (parts a b c).len = a.len + (b.len + c.len) := by unfold parts; rw [Fx.len_app, Fx.len_app]
theorem parts_count (a b c : Fx) : (parts a b c).count = a.count + (b.count + c.count) := by unfold parts; rw [Fx.count_app, Fx.count_app]

/-- The place of a part: among the expressions, the binds, or the alternatives. -/
inductive Place (f1 : Fx) (p : Pre) (k : Int) (s : List UInt8) (n op : Int) (ns : List (List UInt8)) (x y z : Fx) (a b c : Fx) : Prop where
  | a (h : f1.len < a.len) (r : Fx) (e : a = f1.app (.cons p k s n op ns x y z r))
  | b (g : Fx) (h1 : f1.len = a.len + g.len) (h : g.len < b.len) (r : Fx) (e : b = g.app (.cons p k s n op ns x y z r))
  | c (g : Fx) (h1 : f1.len = a.len + b.len + g.len) (h : g.len < c.len) (r : Fx) (e : c = g.app (.cons p k s n op ns x y z r))
theorem place_of {f1 r : Fx} {p : Pre} {k : Int} {s : List UInt8} {n op : Int} {ns : List (List UInt8)} {x y z : Fx} {a b c : Fx} (h : parts a b c = f1.app (.cons p k s n op ns x y z r)) : Place f1 p k s n op ns x y z a b c := by
  unfold parts at h
  rcases Fx.app_split h with ⟨h1, r', e⟩ | ⟨h1, g, e, h2⟩
  · exact .a h1 r' e
  · rcases Fx.app_split h2 with ⟨h3, r', e'⟩ | ⟨h3, g', e', h4⟩
    · exact .b g (by rw [e, Fx.len_app]) h3 r' e'
    · refine .c g' (by rw [e, e', Fx.len_app, Fx.len_app]; omega) ?_ r h4
      rw [h4, Fx.len_app]
      simp [Fx.len]
theorem fx_nil_of {f p q : Fx} (h : f = p.app q) (hl : ¬ p.len < f.len) : q = .nil := by
  rw [h, Fx.len_app] at hl
  exact Fx.len_zero (by omega)
theorem fx_cons_of {f p q : Fx} (h : f = p.app q) (hl : p.len < f.len) : ∃ pr k s n op ns x y z r, q = .cons pr k s n op ns x y z r := by
  rw [h, Fx.len_app] at hl
  cases q with
  | nil => simp [Fx.len] at hl
  | cons pr k s n op ns x y z r => exact ⟨pr, k, s, n, op, ns, x, y, z, r, rfl⟩
end Go.Proofs.YtfcogjlojfcfkaaGreat
end

section
namespace Go.Proofs.YtfcogjlojfcfkaaGreat
open Go Go.RowKit Ex0

/-- The cells of a row of expressions. -/
def FxRow (ok : Nat → Prop) (w : World) : Fx → List Value → Prop
  | .nil, cs => cs = []
  | .cons _ k s n op ns a b c r, cs => ∃ vn va vb vc cr, cs = .int .i64 k :: .string (bt s) :: .int .i64 n :: .int .i64 op :: vn :: va :: vb :: vc :: cr ∧ ExV ok w vn va vb vc ns a b c ∧ FxRow ok w r cr
theorem FxRow.keep {ok ok' : Nat → Prop} {w w' : World} (h : Keep ok ok' w w') : ∀ {f : Fx} {cs : List Value}, FxRow ok w f cs → FxRow ok' w' f cs
  | .nil, _, e => e
  | .cons _ _ _ _ _ _ _ _ _ _, _, ⟨vn, va, vb, vc, cr, e, hx, hr⟩ => ⟨vn, va, vb, vc, cr, e, hx.keep h, FxRow.keep h hr⟩
theorem FxRow.app {ok : Nat → Prop} {w : World} {g : Fx} {ds : List Value} (hg : FxRow ok w g ds) : ∀ {f : Fx} {cs : List Value}, FxRow ok w f cs → FxRow ok w (f.app g) (cs ++ ds)
  | .nil, _, e => by cases e; exact hg
  | .cons _ _ _ _ _ _ _ _ _ _, _, ⟨vn, va, vb, vc, cr, e, hx, hr⟩ => by subst e; exact ⟨vn, va, vb, vc, _, rfl, hx, FxRow.app hg hr⟩
theorem FxRow.length {ok : Nat → Prop} {w : World} : ∀ {f : Fx} {cs : List Value}, FxRow ok w f cs → cs.length = f.len * 8
  | .nil, _, e => by cases e; rfl
  | .cons _ _ _ _ _ _ _ _ _ r, _, ⟨vn, va, vb, vc, cr, e, hx, hr⟩ => by
    have := FxRow.length hr
    subst e
    simp only [List.length_cons, Fx.len]
    omega
theorem FxRow.bare {ok : Nat → Prop} {w : World} : ∀ {f : Fx} {cs : List Value}, FxRow ok w f cs → FxRow ok w f.bare cs
  | .nil, _, e => e
  | .cons _ _ _ _ _ _ _ _ _ _, _, ⟨vn, va, vb, vc, cr, e, hx, hr⟩ => ⟨vn, va, vb, vc, cr, e, hx, FxRow.bare hr⟩
theorem FxRow.one {ok : Nat → Prop} {w : World} : ∀ {f : Fx} {cs : List Value}, FxRow ok w f cs → ∀ u ∈ cs, u.oneCell' = true
  | .nil, _, e => by cases e; intro u hu; cases hu
  | .cons _ _ _ _ _ _ _ _ _ _, _, ⟨vn, va, vb, vc, cr, e, hx, hr⟩ => by
    subst e
    obtain ⟨_, _, rfl⟩ := hx.ns.slice
    obtain ⟨_, _, rfl⟩ := hx.a.slice
    obtain ⟨_, _, rfl⟩ := hx.b.slice
    obtain ⟨_, _, rfl⟩ := hx.c.slice
    intro u hu
    simp only [List.mem_cons] at hu
    rcases hu with rfl | rfl | rfl | rfl | rfl | rfl | rfl | rfl | hu
    · rfl
    · rfl
    · rfl
    · rfl
    · rfl
    · rfl
    · rfl
    · rfl
    · exact FxRow.one hr u hu
/-- The cells of a row of expressions that lies somewhere. -/
theorem fxAt_row {ok : Nat → Prop} {w : World} {b : Nat} : ∀ {f : Fx} {o : Nat}, FxAt ok w 0 b o f → ∃ cs, FxRow ok w f cs ∧ ∀ j u, cs[j]? = some u → w.cell? ⟨b, o + j, none⟩ = some u
  | .nil, _, _ => ⟨[], rfl, fun j u h => by simp at h⟩
  | .cons p k s n op ns x y z r, o, h => by
    obtain ⟨_, h0, h1, h2, h3, ⟨vn, va, vb, vc, h4, h5, h6, h7, hx⟩, hr⟩ := fxAt_cons.1 h
    obtain ⟨cr, hcr, hcc⟩ := fxAt_row hr
    refine ⟨_, ⟨vn, va, vb, vc, cr, rfl, hx, hcr⟩, fun j u hj => ?_⟩
    match j, hj with
    | 0, hj => simp only [List.getElem?_cons_zero, Option.some.injEq] at hj; subst hj; exact h0
    | 1, hj => simp only [List.getElem?_cons_succ, List.getElem?_cons_zero, Option.some.injEq] at hj; subst hj; exact h1
    | 2, hj => simp only [List.getElem?_cons_succ, List.getElem?_cons_zero, Option.some.injEq] at hj; subst hj; exact h2
    | 3, hj => simp only [List.getElem?_cons_succ, List.getElem?_cons_zero, Option.some.injEq] at hj; subst hj; exact h3
    | 4, hj => simp only [List.getElem?_cons_succ, List.getElem?_cons_zero, Option.some.injEq] at hj; subst hj; exact h4
    | 5, hj => simp only [List.getElem?_cons_succ, List.getElem?_cons_zero, Option.some.injEq] at hj; subst hj; exact h5
    | 6, hj => simp only [List.getElem?_cons_succ, List.getElem?_cons_zero, Option.some.injEq] at hj; subst hj; exact h6
    | 7, hj => simp only [List.getElem?_cons_succ, List.getElem?_cons_zero, Option.some.injEq] at hj; subst hj; exact h7
    | j + 8, hj =>
      simp only [List.getElem?_cons_succ] at hj
      have := hcc j u hj
      rw [show o + (j + 8) = o + (0 + 8) + j by omega]
      exact this
/-- Such cells lie as such a row. -/
theorem FxRow.at {ok : Nat → Prop} {w : World} {b : Nat} : ∀ {f : Fx} {cs : List Value} {o : Nat}, FxRow ok w f cs → (∀ j u, cs[j]? = some u → w.cell? ⟨b, o + j, none⟩ = some u) → FxAt ok w 0 b o f.bare
  | .nil, _, _, _, _ => trivial
  | .cons p k s n op ns x y z r, cs, o, ⟨vn, va, vb, vc, cr, e, hx, hr⟩, hc => by
    subst e
    refine fxAt_cons.2 ⟨rfl, hc 0 _ rfl, hc 1 _ rfl, hc 2 _ rfl, hc 3 _ rfl, ⟨vn, va, vb, vc, hc 4 _ rfl, hc 5 _ rfl, hc 6 _ rfl, hc 7 _ rfl, hx⟩, FxRow.at hr fun j u hj => ?_⟩
    rw [show o + (0 + 8) + j = o + (j + 8) by omega]
    exact hc (j + 8) u hj
/-- A row that the program has built reads as its expressions. -/
theorem FxRow.value {ok ok' : Nat → Prop} {w : World} {base n : Nat} {T : TypeId} {v : Value} {f : Fx} {cs : List Value} (h : FxRow ok w f cs) (hown : w.ownsRow base T 8 v n cs) (hn : n = f.len) (hok : ∀ b, ok b → ok' b) (hg : ∀ g, v.ownBlock = some g → ok' g) : FxV ok' w 0 v f.bare := by
  obtain ⟨hl, ho⟩ := hown
  rcases ho with ⟨rfl, h0⟩ | ⟨g, cap, cur, rfl, hgb, hh, hc, hm, hs, ht⟩
  · have : f = .nil := Fx.len_zero (by omega)
    subst this
    exact .inl ⟨rfl, _, _, rfl⟩
  · by_cases hf : f = .nil
    · subst hf
      subst hn
      exact .inl ⟨rfl, _, _, rfl⟩
    · subst hn
      have hne : f.bare ≠ .nil := fun e => hf (Fx.len_zero (by rw [← Fx.len_bare, e]; rfl))
      refine .inr ⟨hne, g, 0, cap, by rw [Fx.len_bare], hg g rfl, by rw [Fx.len_bare]; exact hc, hm, (h.keep (keep_le w hok)).at fun j u hj => ?_⟩
      have hlt : j < f.len * 8 := by
        have := (List.getElem?_eq_some_iff.1 hj).1
        omega
      rw [← ht, List.getElem?_take_of_lt hlt] at hj
      simp [World.cell?, hh]
      simpa using hj

/-! append of nothing onto nothing. -/
theorem run_append_nothing {P : Program} (w : World) (t ty e : TypeId) (i : TypeInfo) (ht : P.underlying t = some (.slice e)) (hi : P.info? e = some i) (A : Option Addr) (c : Nat) :
    (Builtin.append_ #[t, t] ty #[.slice none 0 0, .slice A 0 c]).run P w = .ok (.slice none 0 0) w := by
  cases A <;> simp [Builtin.append_, run_underlying ht, sizeOf, typeInfo, hi, Builtin.lenOf, Builtin.firstCells, loadCells, loadCellsFrom]
theorem wpList_append_nothing {P : Program} {w : World} {ops : Array Oper} {rest : List Oper} {o : Oper} {a : Act} {Q : Exit → Act → World → Prop} (hgd : o.guard = none) (s x : Operand) (t : TypeId)
    (ho : o.op = .call { callee := .builtin .append, args := #[s, x], argTypes := #[t, t] }) (e : TypeId) (i : TypeInfo) (ht : P.underlying t = some (.slice e)) (hi : P.info? e = some i)
    (hs : a.eval s = .slice none 0 0) (A : Option Addr) (c : Nat) (hx : a.eval x = .slice A 0 c) (h : wpList P ops Q rest (a.put o.dst (.slice none 0 0)) w) : wpList P ops Q (o :: rest) a w := by
  refine wpList_plain hgd fun _ hK => ?_
  unfold Oper.wp execOp
  simp only [ho, resolve, invoke, builtin, Sem.run_bind, Sem.run_pure, Result.andThen_ok, List.map_toArray, List.map_cons, List.map_nil, hs, hx, run_append_nothing w t o.type e i ht hi A c]
  exact hK _ _ h
theorem run_append_fx {P : Program} (w : World) (base : Nat) (t ty e : TypeId) (i : TypeInfo) (z : Value) (ht : P.underlying t = some (.slice e)) (hi : P.info? e = some i) (hz : i.zero = some z) (hsize : i.size = 8) (hby : i.bytes = 136)
    (hzs : z.cells.size = 8) {ok : Nat → Prop} {A : Option Addr} {c : Nat} {f : Fx} (hf : FxV ok w 0 (.slice A f.len c) f) (h63 : f.len ≤ 1048576) (hbase : base ≤ w.heap.size) :
    ∃ v' w' cs, (Builtin.append_ #[t, t] ty #[.slice none 0 0, .slice A f.len c]).run P w = .ok v' w' ∧ FxRow ok w f cs ∧ w'.ownsRow base e 8 v' f.len cs ∧ w.grownBy w' none := by
  by_cases h0 : f = .nil
  · subst h0
    exact ⟨_, w, [], run_append_nothing w t ty e i ht hi A c, rfl, World.ownsRow_nil _ _ _ _, ⟨rfl, rfl, rfl, Nat.le_refl _, fun _ _ _ => rfl⟩⟩
  · rcases hf with ⟨hf, _⟩ | ⟨_, b, o, cp, he, hb, hl, hc, ha⟩
    · exact absurd hf h0
    simp only [Value.slice.injEq, true_and] at he
    obtain ⟨rfl, rfl⟩ := he
    obtain ⟨cs, hr, hcs⟩ := fxAt_row ha
    have hpos : 0 < f.len := by
      rcases Nat.eq_zero_or_pos f.len with h | h
      · exact absurd (Fx.len_zero h) h0
      · exact h
    have hadd : ∀ k, (Addr.mk b o none).add k = ⟨b, o + k, none⟩ := fun k => by unfold Addr.add; split <;> simp_all
    obtain ⟨g, cap, w', h1, h2, h3, _⟩ := run_append_lies (P := P) w t ty base e i z 8 136 ht hi hz hsize hby hzs (by decide) (.slice none 0 0) 0 [] (World.ownsRow_nil _ _ _ _) ⟨b, o, none⟩ f.len c cs hr.length (fun j u hj => by rw [hadd]; exact hcs j u hj) hr.one hpos (by simp [maxLen]; omega) (by omega) hbase _ rfl
    rw [Nat.zero_add, List.nil_append] at h2
    rw [Nat.zero_add] at h1
    exact ⟨_, w', cs, h1, hr, h2, h3⟩
theorem wpList_append_fx {P : Program} {w : World} (base : Nat) {ops : Array Oper} {rest : List Oper} {o : Oper} {a : Act} {Q : Exit → Act → World → Prop} (hgd : o.guard = none) (s x : Operand) (t : TypeId)
    (ho : o.op = .call { callee := .builtin .append, args := #[s, x], argTypes := #[t, t] }) (e : TypeId) (i : TypeInfo) (z : Value) (ht : P.underlying t = some (.slice e)) (hi : P.info? e = some i) (hz : i.zero = some z) (hsize : i.size = 8) (hby : i.bytes = 136)
    (hzs : z.cells.size = 8) {ok : Nat → Prop} {A : Option Addr} {c : Nat} {f : Fx} (hs : a.eval s = .slice none 0 0) (hx : a.eval x = .slice A f.len c) (hf : FxV ok w 0 (.slice A f.len c) f) (h63 : f.len ≤ 1048576) (hbase : base ≤ w.heap.size)
    (h : ∀ v' w' cs, FxRow ok w f cs → w'.ownsRow base e 8 v' f.len cs → w.grownBy w' none → wpList P ops Q rest (a.put o.dst v') w') : wpList P ops Q (o :: rest) a w := by
  obtain ⟨v', w', cs, h1, h2, h3, h4⟩ := run_append_fx (P := P) w base t o.type e i z ht hi hz hsize hby hzs hf h63 hbase
  refine wpList_plain hgd fun _ hK => ?_
  unfold Oper.wp execOp
  simp only [ho, resolve, invoke, builtin, Sem.run_bind, Sem.run_pure, Result.andThen_ok, List.map_toArray, List.map_cons, List.map_nil, hs, hx, h1]
  exact hK _ _ (h v' w' cs h2 h3 h4)
theorem own_same {w w' : World} {base : Nat} {e : TypeId} {size : Nat} {v : Value} {n : Nat} {xs : List Value} (h : w.ownsRow base e size v n xs) (hb : ∀ q, v.ownBlock = some q → w'.heap[q]? = w.heap[q]?) : w'.ownsRow base e size v n xs := by
  obtain ⟨h1, h2⟩ := h
  refine ⟨h1, ?_⟩
  rcases h2 with h2 | ⟨g, cap, cur, rfl, hg, hh, r⟩
  · exact .inl h2
  · exact .inr ⟨g, cap, cur, rfl, hg, (hb g rfl).trans hh, r⟩
end Go.Proofs.YtfcogjlojfcfkaaGreat
end
