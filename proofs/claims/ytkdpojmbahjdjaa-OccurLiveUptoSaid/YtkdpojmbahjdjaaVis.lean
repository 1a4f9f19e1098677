/- What counting a name costs, and which parts of an expression it goes into. No condition. -/
import Derived.Test.YtkdpojmbahjdjaaUseR
import Derived.Test.YtkdpojmbahjdjaaShapeD
import Derived.Test.YtkdpojmbahjdjaaExOp
namespace Go.Proofs.Ytkdpojmbahjdjaa.Ex0
open Go Go.RowKit

def Pre.cost : Pre → Nat
  | .alt _ _ _ ns => ns.length
  | _ => 0
/-- How many steps it takes to count in a row. -/
def Fx.cost : Fx → Nat
  | .nil => 0
  | .cons p _ _ _ _ ns a b c r => p.cost + (1 + ns.length + b.len + (a.cost + b.cost + c.cost)) + r.cost
def costE (ns : List (List UInt8)) (a b c : Fx) : Nat := 1 + ns.length + b.len + (a.cost + b.cost + c.cost)
theorem nsWt_len (ns : List (List UInt8)) : ns.length ≤ nsWt ns := by
  unfold nsWt
  induction ns with
  | nil => exact Nat.le_refl _
  | cons s l ih => simp only [List.length_cons, List.map_cons, List.sum_cons]; omega
theorem cost_wt (f : Fx) : f.cost + f.len ≤ f.wt := by
  induction f with
  | nil => exact Nat.le_refl _
  | cons p k s n op ns a b c r iha ihb ihc ihr =>
    have h1 := nsWt_len ns
    have h2 : p.cost ≤ p.wt := by
      cases p with
      | no => exact Nat.le_refl _
      | bind s => exact Nat.zero_le _
      | alt k s n ns => have := nsWt_len ns; simp only [Pre.cost, Pre.wt]; omega
    simp only [Fx.cost, Fx.len, Fx.wt]
    omega
theorem costE_wt (ns : List (List UInt8)) (a b c : Fx) : costE ns a b c ≤ 1 + (a.wt + b.wt + c.wt + nsWt ns) := by
  have h1 := nsWt_len ns
  have h2 := cost_wt a
  have h3 := cost_wt b
  have h4 := cost_wt c
  unfold costE
  omega
theorem cost_app (f g : Fx) : (f.app g).cost = f.cost + g.cost := by
  induction f with
  | nil => simp [Fx.app, Fx.cost]
  | cons p k s n op ns a b c r _ _ _ ih => simp only [Fx.app, Fx.cost, ih]; omega

theorem or_add (u v : Nat) (p q : Bool) : ((p || decide (0 < u)) || (q || decide (0 < v))) = ((p || q) || decide (0 < u + v)) := by
  cases p with
  | true => simp
  | false =>
    cases q with
    | true => simp
    | false =>
      by_cases h : 0 < u
      · have h' : 0 < u + v := by omega
        simp [h, h']
      · have h0 : u = 0 := by omega
        subst h0
        simp
theorem anyU_lam (x : List UInt8) (lam : Bool) (f : Fx) : anyU x lam f = (anyU x false f || (lam && decide (0 < sumU x f))) := by
  cases lam with
  | false => simp
  | true =>
    induction f with
    | nil => simp [anyU, sumU]
    | cons p k s n op ns a b c r _ _ _ ih =>
      simp only [anyU, sumU, ih, Bool.and_true, Bool.and_false, Bool.or_false, Bool.true_and]
      exact or_add _ _ _ _

/-- The parts of an expression into which counting a name goes. -/
def vis (x : List UInt8) (k : Int) (s : List UInt8) (ns : List (List UInt8)) (a b c : Fx) : Fx := (if decide (x ∈ ns) || bindsX x b then Fx.nil else a.app b).app (c.sel (altSees x k s))
theorem sel_nil (q : Pre → Bool) : Fx.nil.sel q = .nil := rfl
theorem len_pos {f : Fx} (h : decide (0 < f.len) = false) : f = .nil := Fx.len_zero (by simpa using h)
end Go.Proofs.Ytkdpojmbahjdjaa.Ex0

namespace Go.Proofs.Ytkdpojmbahjdjaa
open Go Go.RowKit Ex0
theorem own_no {k : Int} {s : List UInt8} {n op : Int} {ns : List (List UInt8)} {a b c : Fx} (h : ownB k s n op ns a.len b.len c = true) :
    ((k == 1) = true → a = .nil) ∧ ((k == 3) = false → ns = []) ∧ ((k == 5) = false → b = .nil) ∧ ((k == 6) = false → c = .nil) := by
  unfold ownB bad1 bad2 at h
  simp only [Bool.and_eq_true, Bool.not_eq_true', Bool.or_eq_false_iff] at h
  obtain ⟨⟨h1, h2⟩, h3⟩ := h
  refine ⟨fun h => ?_, fun h => ?_, fun h => ?_, fun h => ?_⟩
  · have hk : k = 1 := by simpa using h
    subst hk
    exact len_pos (by have := h2.1.2; simpa [oneB, subsB] using this)
  · have := h1.1.1.2
    have hk : (k != 3) = true := by simp only [bne, h]; rfl
    rw [hk] at this
    simpa using this
  · have := h1.1.2
    have hk : (k != 5) = true := by simp only [bne, h]; rfl
    rw [hk] at this
    exact len_pos (by simpa using this)
  · have := h1.2
    have hk : (k != 6) = true := by simp only [bne, h]; rfl
    rw [hk] at this
    exact len_pos (by simpa using this)

/-- How often a Var itself is the name. -/
def ownU (x : List UInt8) (k : Int) (s : List UInt8) : Nat := if (k == 1) && decide (s = x) then 1 else 0
theorem uses_vis {x : List UInt8} {k : Int} {s : List UInt8} {n op : Int} {ns : List (List UInt8)} {a b c : Fx} (h : ownB k s n op ns a.len b.len c = true) :
    usesE x k s ns a b c = (ownU x k s + sumU x (vis x k s ns a b c), anyU x false (vis x k s ns a b c) || ((k == 3) && decide (0 < ownU x k s + sumU x (vis x k s ns a b c)))) := by
  obtain ⟨p1, p3, p5, p6⟩ := own_no h
  cases h1 : (k == 1) with
  | true =>
    have hk : k = 1 := by simpa using h1
    subst hk
    obtain rfl := p1 h1
    obtain rfl := p3 rfl
    obtain rfl := p5 rfl
    obtain rfl := p6 rfl
    rw [usesE_var rfl]
    have hv : vis x 1 s [] .nil .nil .nil = .nil := by unfold vis; rfl
    rw [hv]
    simp [ownU, sumU, anyU]
  | false =>
    have ho : ownU x k s = 0 := by unfold ownU; rw [h1]; rfl
    rw [ho, Nat.zero_add]
    by_cases h3 : ((k == 3) && decide (x ∈ ns)) = true
    · simp only [Bool.and_eq_true, decide_eq_true_eq] at h3
      have hk : k = 3 := by simpa using h3.1
      subst hk
      obtain rfl := p6 rfl
      rw [usesE_lam rfl rfl h3.2]
      have hv : vis x 3 s ns a b .nil = .nil := by unfold vis; rw [decide_eq_true h3.2]; rfl
      rw [hv]
      simp [sumU, anyU]
    · simp only [Bool.not_eq_true] at h3
      by_cases h5 : ((k == 5) && bindsX x b) = true
      · simp only [Bool.and_eq_true] at h5
        have hk : k = 5 := by simpa using h5.1
        subst hk
        obtain rfl := p6 rfl
        rw [usesE_let rfl rfl rfl h5.2]
        have hv : vis x 5 s ns a b .nil = .nil := by unfold vis; rw [h5.2, Bool.or_true]; rfl
        rw [hv]
        simp [sumU, anyU]
      · simp only [Bool.not_eq_true] at h5
        rw [usesE_open h1 h3 h5]
        have hn : decide (x ∈ ns) = false := by
          cases hk : (k == 3) with
          | true => rw [hk] at h3; simpa using h3
          | false => rw [p3 hk]; simp
        have hb : bindsX x b = false := by
          cases hk : (k == 5) with
          | true => rw [hk] at h5; simpa using h5
          | false => rw [p5 hk]; rfl
        have hv : vis x k s ns a b c = (a.app b).app (c.sel (altSees x k s)) := by unfold vis; rw [hn, hb]; rfl
        rw [hv, Fx.app_app]
        unfold open'
        rw [sumU_bare, anyU_bare, anyU_lam]
end Go.Proofs.Ytkdpojmbahjdjaa
