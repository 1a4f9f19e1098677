/- Rows of expressions, binds and alternatives as lists of cells, of which some are stored into. No condition. -/
import Derived.Test.YtfcogjlojfcfkaaGreatMA
import Derived.Test.YtfcogjlojfcfkaaGreatMW
import Derived.Test.YtfcogjlojfcfkaaGreatMC
import Derived.Test.YtfcogjlojfcfkaaGreatMO
import Derived.Maps.AppendAt
import Derived.Test.YtfcogjlojfcfkaaGreatMN
import Derived.Test.YtfcogjlojfcfkaaGreatMU
import Derived.Test.YtfcogjlojfcfkaaGreatMV
section
namespace Go.Proofs.YtfcogjlojfcfkaaGreat
open Go.RowKit Ex0
attribute [local go_sem] bt_size bt_list bt_toList

theorem set_get' {cs : Array Value} {o i : Nat} {v : Value} : (cs.setIfInBounds o v)[i]? = if o = i then (if i < cs.size then some v else none) else cs[i]? := set_get
theorem app3_get {l1 l2 l3 : List Value} {i : Nat} (h : l1.length + l2.length ≤ i) : (l1 ++ (l2 ++ l3))[i]? = l3[i - l1.length - l2.length]? := by
  rw [List.getElem?_append_right (by omega), List.getElem?_append_right (by omega)]
theorem own_cellsN {w : World} {base g cap n sz : Nat} {T : TypeId} {xs : List Value} (h : w.ownsRow base T sz (.slice (some ⟨g, 0, none⟩) n cap) n xs) :
    ∃ cs, w.heap[g]? = some (.cells cs T (0, 0)) ∧ base ≤ g ∧ n ≤ cap ∧ cap ≤ maxLen ∧ cs.size = cap * sz ∧ xs.length = n * sz ∧ ∀ i, i < n * sz → cs[i]? = xs[i]? := by
  obtain ⟨hl, h⟩ := h
  rcases h with ⟨h, _⟩ | ⟨g', cap', cs, hv, hg, hh, hn, hm, hs, ht⟩
  · cases h
  · cases hv
    refine ⟨cs, hh, hg, hn, hm, hs, hl, fun i hi => ?_⟩
    rw [← ht, List.getElem?_take_of_lt hi]
    simp
theorem own_mkN {w : World} {base g cap n sz : Nat} {T : TypeId} {xs : List Value} {cs : Array Value} (hh : w.heap[g]? = some (.cells cs T (0, 0))) (hg : base ≤ g) (hn : n ≤ cap) (hm : cap ≤ maxLen) (hs : cs.size = cap * sz) (hl : xs.length = n * sz) (hc : ∀ i, i < n * sz → cs[i]? = xs[i]?) :
    w.ownsRow base T sz (.slice (some ⟨g, 0, none⟩) n cap) n xs := by
  refine ⟨hl, .inr ⟨g, cap, cs, rfl, hg, hh, hn, hm, hs, ?_⟩⟩
  apply List.ext_getElem?
  intro i
  by_cases hi : i < n * sz
  · rw [List.getElem?_take_of_lt hi, ← hc i hi]
    simp
  · rw [List.getElem?_eq_none (by simp; omega), List.getElem?_eq_none (by omega)]
theorem set8_get {cur : Array Value} {o i : Nat} {v0 v1 v2 v3 v4 v5 v6 v7 : Value} (h : o + 8 ≤ cur.size) : ((((((((cur.setIfInBounds (o) v0).setIfInBounds (o + 1) v1).setIfInBounds (o + 2) v2).setIfInBounds (o + 3) v3).setIfInBounds (o + 4) v4).setIfInBounds (o + 5) v5).setIfInBounds (o + 6) v6).setIfInBounds (o + 7) v7)[i]? = if o ≤ i ∧ i < o + 8 then [v0, v1, v2, v3, v4, v5, v6, v7][i - o]? else cur[i]? := by
  by_cases hi : o ≤ i ∧ i < o + 8
  · rw [if_pos hi]
    obtain ⟨j, rfl⟩ : ∃ j, i = o + j := ⟨i - o, by omega⟩
    rw [show o + j - o = j by omega]
    match j, hi with
    | 0, _ => rw [set_get', if_neg (by omega), set_get', if_neg (by omega), set_get', if_neg (by omega), set_get', if_neg (by omega), set_get', if_neg (by omega), set_get', if_neg (by omega), set_get', if_neg (by omega), set_get', if_pos (by omega), if_pos (by simp; omega)]; rfl
    | 1, _ => rw [set_get', if_neg (by omega), set_get', if_neg (by omega), set_get', if_neg (by omega), set_get', if_neg (by omega), set_get', if_neg (by omega), set_get', if_neg (by omega), set_get', if_pos (by omega), if_pos (by simp; omega)]; rfl
    | 2, _ => rw [set_get', if_neg (by omega), set_get', if_neg (by omega), set_get', if_neg (by omega), set_get', if_neg (by omega), set_get', if_neg (by omega), set_get', if_pos (by omega), if_pos (by simp; omega)]; rfl
    | 3, _ => rw [set_get', if_neg (by omega), set_get', if_neg (by omega), set_get', if_neg (by omega), set_get', if_neg (by omega), set_get', if_pos (by omega), if_pos (by simp; omega)]; rfl
    | 4, _ => rw [set_get', if_neg (by omega), set_get', if_neg (by omega), set_get', if_neg (by omega), set_get', if_pos (by omega), if_pos (by simp; omega)]; rfl
    | 5, _ => rw [set_get', if_neg (by omega), set_get', if_neg (by omega), set_get', if_pos (by omega), if_pos (by simp; omega)]; rfl
    | 6, _ => rw [set_get', if_neg (by omega), set_get', if_pos (by omega), if_pos (by simp; omega)]; rfl
    | 7, _ => rw [set_get', if_pos (by omega), if_pos (by simp; omega)]; rfl
    | j + 8, hi => omega
  · rw [if_neg hi]
    rw [set_get', if_neg (by omega), set_get', if_neg (by omega), set_get', if_neg (by omega), set_get', if_neg (by omega), set_get', if_neg (by omega), set_get', if_neg (by omega), set_get', if_neg (by omega), set_get', if_neg (by omega)]
theorem own_set8 {w : World} {base g cap m : Nat} {E : TypeId} {sz o : Nat} {v0 v1 v2 v3 v4 v5 v6 v7 : Value} {cs1 old cs2 : List Value} (h : w.ownsRow base E sz (.slice (some ⟨g, 0, none⟩) m cap) m (cs1 ++ (old ++ cs2))) (hold : old.length = 8) (ho : cs1.length = o) :
    ((((((((w.setCell ⟨g, o, none⟩ v0).setCell ⟨g, o + 1, none⟩ v1).setCell ⟨g, o + 2, none⟩ v2).setCell ⟨g, o + 3, none⟩ v3).setCell ⟨g, o + 4, none⟩ v4).setCell ⟨g, o + 5, none⟩ v5).setCell ⟨g, o + 6, none⟩ v6).setCell ⟨g, o + 7, none⟩ v7).ownsRow base E sz (.slice (some ⟨g, 0, none⟩) m cap) m (cs1 ++ ([v0, v1, v2, v3, v4, v5, v6, v7] ++ cs2)) := by
  obtain ⟨cur, hh, hg, hn, hm, hs, hl, hc⟩ := own_cellsN h
  subst ho
  simp only [List.length_append, hold] at hl
  have hb : cs1.length + 8 ≤ cur.size := by
    have : m * sz ≤ cap * sz := Nat.mul_le_mul_right _ hn
    rw [hs]
    omega
  refine own_mkN (heap_set (heap_set (heap_set (heap_set (heap_set (heap_set (heap_set (heap_set hh v0) v1) v2) v3) v4) v5) v6) v7) hg hn hm (by simp [hs]) (by simp only [List.length_append, List.length_cons, List.length_nil]; omega) (fun i hi => ?_)
  rw [set8_get hb]
  by_cases h1 : cs1.length ≤ i ∧ i < cs1.length + 8
  · rw [if_pos h1, List.getElem?_append_right h1.1, List.getElem?_append_left (by simp only [List.length_cons, List.length_nil]; omega)]
  · rw [if_neg h1, hc i hi]
    by_cases h2 : i < cs1.length
    · rw [List.getElem?_append_left h2, List.getElem?_append_left h2]
    · rw [app3_get (by rw [hold]; omega), app3_get (by simp only [List.length_cons, List.length_nil]; omega), hold]
      rfl
theorem set12_get {cur : Array Value} {o i : Nat} {v0 v1 v2 v3 v4 v5 v6 v7 v8 v9 v10 v11 : Value} (h : o + 12 ≤ cur.size) : ((((((((((((cur.setIfInBounds (o) v0).setIfInBounds (o + 1) v1).setIfInBounds (o + 2) v2).setIfInBounds (o + 3) v3).setIfInBounds (o + 4) v4).setIfInBounds (o + 5) v5).setIfInBounds (o + 6) v6).setIfInBounds (o + 7) v7).setIfInBounds (o + 8) v8).setIfInBounds (o + 9) v9).setIfInBounds (o + 10) v10).setIfInBounds (o + 11) v11)[i]? = if o ≤ i ∧ i < o + 12 then [v0, v1, v2, v3, v4, v5, v6, v7, v8, v9, v10, v11][i - o]? else cur[i]? := by
  by_cases hi : o ≤ i ∧ i < o + 12
  · rw [if_pos hi]
    obtain ⟨j, rfl⟩ : ∃ j, i = o + j := ⟨i - o, by omega⟩
    rw [show o + j - o = j by omega]
    match j, hi with
    | 0, _ => rw [set_get', if_neg (by omega), set_get', if_neg (by omega), set_get', if_neg (by omega), set_get', if_neg (by omega), set_get', if_neg (by omega), set_get', if_neg (by omega), set_get', if_neg (by omega), set_get', if_neg (by omega), set_get', if_neg (by omega), set_get', if_neg (by omega), set_get', if_neg (by omega), set_get', if_pos (by omega), if_pos (by simp; omega)]; rfl
    | 1, _ => rw [set_get', if_neg (by omega), set_get', if_neg (by omega), set_get', if_neg (by omega), set_get', if_neg (by omega), set_get', if_neg (by omega), set_get', if_neg (by omega), set_get', if_neg (by omega), set_get', if_neg (by omega), set_get', if_neg (by omega), set_get', if_neg (by omega), set_get', if_pos (by omega), if_pos (by simp; omega)]; rfl
    | 2, _ => rw [set_get', if_neg (by omega), set_get', if_neg (by omega), set_get', if_neg (by omega), set_get', if_neg (by omega), set_get', if_neg (by omega), set_get', if_neg (by omega), set_get', if_neg (by omega), set_get', if_neg (by omega), set_get', if_neg (by omega), set_get', if_pos (by omega), if_pos (by simp; omega)]; rfl
    | 3, _ => rw [set_get', if_neg (by omega), set_get', if_neg (by omega), set_get', if_neg (by omega), set_get', if_neg (by omega), set_get', if_neg (by omega), set_get', if_neg (by omega), set_get', if_neg (by omega), set_get', if_neg (by omega), set_get', if_pos (by omega), if_pos (by simp; omega)]; rfl
    | 4, _ => rw [set_get', if_neg (by omega), set_get', if_neg (by omega), set_get', if_neg (by omega), set_get', if_neg (by omega), set_get', if_neg (by omega), set_get', if_neg (by omega), set_get', if_neg (by omega), set_get', if_pos (by omega), if_pos (by simp; omega)]; rfl
    | 5, _ => rw [set_get', if_neg (by omega), set_get', if_neg (by omega), set_get', if_neg (by omega), set_get', if_neg (by omega), set_get', if_neg (by omega), set_get', if_neg (by omega), set_get', if_pos (by omega), if_pos (by simp; omega)]; rfl
    | 6, _ => rw [set_get', if_neg (by omega), set_get', if_neg (by omega), set_get', if_neg (by omega), set_get', if_neg (by omega), set_get', if_neg (by omega), set_get', if_pos (by omega), if_pos (by simp; omega)]; rfl
    | 7, _ => rw [set_get', if_neg (by omega), set_get', if_neg (by omega), set_get', if_neg (by omega), set_get', if_neg (by omega), set_get', if_pos (by omega), if_pos (by simp; omega)]; rfl
    | 8, _ => rw [set_get', if_neg (by omega), set_get', if_neg (by omega), set_get', if_neg (by omega), set_get', if_pos (by omega), if_pos (by simp; omega)]; rfl
    | 9, _ => rw [set_get', if_neg (by omega), set_get', if_neg (by omega), set_get', if_pos (by omega), if_pos (by simp; omega)]; rfl
    | 10, _ => rw [set_get', if_neg (by omega), set_get', if_pos (by omega), if_pos (by simp; omega)]; rfl
    | 11, _ => rw [set_get', if_pos (by omega), if_pos (by simp; omega)]; rfl
    | j + 12, hi => omega
  · rw [if_neg hi]
    rw [set_get', if_neg (by omega), set_get', if_neg (by omega), set_get', if_neg (by omega), set_get', if_neg (by omega), set_get', if_neg (by omega), set_get', if_neg (by omega), set_get', if_neg (by omega), set_get', if_neg (by omega), set_get', if_neg (by omega), set_get', if_neg (by omega), set_get', if_neg (by omega), set_get', if_neg (by omega)]
theorem own_set12 {w : World} {base g cap m : Nat} {E : TypeId} {sz o : Nat} {v0 v1 v2 v3 v4 v5 v6 v7 v8 v9 v10 v11 : Value} {cs1 old cs2 : List Value} (h : w.ownsRow base E sz (.slice (some ⟨g, 0, none⟩) m cap) m (cs1 ++ (old ++ cs2))) (hold : old.length = 12) (ho : cs1.length = o) :
    ((((((((((((w.setCell ⟨g, o, none⟩ v0).setCell ⟨g, o + 1, none⟩ v1).setCell ⟨g, o + 2, none⟩ v2).setCell ⟨g, o + 3, none⟩ v3).setCell ⟨g, o + 4, none⟩ v4).setCell ⟨g, o + 5, none⟩ v5).setCell ⟨g, o + 6, none⟩ v6).setCell ⟨g, o + 7, none⟩ v7).setCell ⟨g, o + 8, none⟩ v8).setCell ⟨g, o + 9, none⟩ v9).setCell ⟨g, o + 10, none⟩ v10).setCell ⟨g, o + 11, none⟩ v11).ownsRow base E sz (.slice (some ⟨g, 0, none⟩) m cap) m (cs1 ++ ([v0, v1, v2, v3, v4, v5, v6, v7, v8, v9, v10, v11] ++ cs2)) := by
  obtain ⟨cur, hh, hg, hn, hm, hs, hl, hc⟩ := own_cellsN h
  subst ho
  simp only [List.length_append, hold] at hl
  have hb : cs1.length + 12 ≤ cur.size := by
    have : m * sz ≤ cap * sz := Nat.mul_le_mul_right _ hn
    rw [hs]
    omega
  refine own_mkN (heap_set (heap_set (heap_set (heap_set (heap_set (heap_set (heap_set (heap_set (heap_set (heap_set (heap_set (heap_set hh v0) v1) v2) v3) v4) v5) v6) v7) v8) v9) v10) v11) hg hn hm (by simp [hs]) (by simp only [List.length_append, List.length_cons, List.length_nil]; omega) (fun i hi => ?_)
  rw [set12_get hb]
  by_cases h1 : cs1.length ≤ i ∧ i < cs1.length + 12
  · rw [if_pos h1, List.getElem?_append_right h1.1, List.getElem?_append_left (by simp only [List.length_cons, List.length_nil]; omega)]
  · rw [if_neg h1, hc i hi]
    by_cases h2 : i < cs1.length
    · rw [List.getElem?_append_left h2, List.getElem?_append_left h2]
    · rw [app3_get (by rw [hold]; omega), app3_get (by simp only [List.length_cons, List.length_nil]; omega), hold]
      rfl

/-- The cells ahead of an expression. -/
def PreC (ok : Nat → Prop) (w : World) (m : Nat) : Pre → List Value → Prop
  | .no, cs => m = 0 ∧ cs = []
  | .bind s, cs => m = 1 ∧ cs = [.string (bt s)]
  | .alt k s n ns, cs => m = 4 ∧ ∃ v, cs = [.int .i64 k, .string (bt s), .int .i64 n, v] ∧ NsV ok w v ns
theorem PreC.len {ok : Nat → Prop} {w : World} {m : Nat} {p : Pre} {cs : List Value} (h : PreC ok w m p cs) : cs.length = m := by
  cases p with
  | no => obtain ⟨rfl, rfl⟩ := h; rfl
  | bind s => obtain ⟨rfl, rfl⟩ := h; rfl
  | alt k s n ns => obtain ⟨rfl, v, rfl, _⟩ := h; rfl
theorem PreC.keep {ok ok' : Nat → Prop} {w w' : World} (h : Keep ok ok' w w') {m : Nat} {p : Pre} {cs : List Value} (hp : PreC ok w m p cs) : PreC ok' w' m p cs := by
  cases p with
  | no => exact hp
  | bind s => exact hp
  | alt k s n ns => exact ⟨hp.1, let ⟨v, e, hv⟩ := hp.2; ⟨v, e, hv.keep h⟩⟩
theorem PreC.one {ok : Nat → Prop} {w : World} {m : Nat} {p : Pre} {cs : List Value} (h : PreC ok w m p cs) : ∀ u ∈ cs, u.oneCell' = true := by
  cases p with
  | no => obtain ⟨rfl, rfl⟩ := h; intro u hu; cases hu
  | bind s => obtain ⟨rfl, rfl⟩ := h; intro u hu; simp only [List.mem_singleton] at hu; subst hu; rfl
  | alt k s n ns =>
    obtain ⟨rfl, v, rfl, hv⟩ := h
    obtain ⟨_, _, rfl⟩ := hv.slice
    intro u hu
    simp only [List.mem_cons, List.not_mem_nil, or_false] at hu
    rcases hu with rfl | rfl | rfl | rfl <;> rfl
/-- The cells of a row. -/
def RwRow (ok : Nat → Prop) (w : World) (m : Nat) : Fx → List Value → Prop
  | .nil, cs => cs = []
  | .cons p k s n op ns a b c r, cs => ∃ pc vn va vb vc cr, PreC ok w m p pc ∧ cs = pc ++ (.int .i64 k :: .string (bt s) :: .int .i64 n :: .int .i64 op :: vn :: va :: vb :: vc :: cr) ∧ ExV ok w vn va vb vc ns a b c ∧ RwRow ok w m r cr
theorem RwRow.keep {ok ok' : Nat → Prop} {w w' : World} {m : Nat} (h : Keep ok ok' w w') : ∀ {f : Fx} {cs : List Value}, RwRow ok w m f cs → RwRow ok' w' m f cs
  | .nil, _, e => e
  | .cons _ _ _ _ _ _ _ _ _ _, _, ⟨pc, vn, va, vb, vc, cr, hp, e, hx, hr⟩ => ⟨pc, vn, va, vb, vc, cr, hp.keep h, e, hx.keep h, RwRow.keep h hr⟩
theorem RwRow.app {ok : Nat → Prop} {w : World} {m : Nat} {g : Fx} {ds : List Value} (hg : RwRow ok w m g ds) : ∀ {f : Fx} {cs : List Value}, RwRow ok w m f cs → RwRow ok w m (f.app g) (cs ++ ds)
  | .nil, _, e => by cases e; exact hg
  | .cons _ _ _ _ _ _ _ _ _ _, _, ⟨pc, vn, va, vb, vc, cr, hp, e, hx, hr⟩ => by
    subst e
    exact ⟨pc, vn, va, vb, vc, cr ++ ds, hp, by simp, hx, RwRow.app hg hr⟩
theorem RwRow.length {ok : Nat → Prop} {w : World} {m : Nat} : ∀ {f : Fx} {cs : List Value}, RwRow ok w m f cs → cs.length = f.len * (m + 8)
  | .nil, _, e => by cases e; simp [Fx.len]
  | .cons _ _ _ _ _ _ _ _ _ r, _, ⟨pc, vn, va, vb, vc, cr, hp, e, hx, hr⟩ => by
    have h1 := RwRow.length hr
    have h2 := hp.len
    subst e
    simp only [List.length_append, List.length_cons, Fx.len]
    rw [Nat.add_mul, Nat.one_mul]
    omega
theorem RwRow.one {ok : Nat → Prop} {w : World} {m : Nat} : ∀ {f : Fx} {cs : List Value}, RwRow ok w m f cs → ∀ u ∈ cs, u.oneCell' = true
  | .nil, _, e => by cases e; intro u hu; cases hu
  | .cons _ _ _ _ _ _ _ _ _ _, _, ⟨pc, vn, va, vb, vc, cr, hp, e, hx, hr⟩ => by
    subst e
    obtain ⟨_, _, rfl⟩ := hx.ns.slice
    obtain ⟨_, _, rfl⟩ := hx.a.slice
    obtain ⟨_, _, rfl⟩ := hx.b.slice
    obtain ⟨_, _, rfl⟩ := hx.c.slice
    intro u hu
    rcases List.mem_append.1 hu with hu | hu
    · exact hp.one u hu
    simp only [List.mem_cons] at hu
    rcases hu with rfl | rfl | rfl | rfl | rfl | rfl | rfl | rfl | hu
    · rfl
    · rfl
    · rfl
    · rfl
    · rfl
    · rfl
    · rfl
    · rfl
    · exact RwRow.one hr u hu
/-- The cells of a row that lies somewhere. -/
theorem fxAt_rw {ok : Nat → Prop} {w : World} {m b : Nat} : ∀ {f : Fx} {o : Nat}, FxAt ok w m b o f → ∃ cs, RwRow ok w m f cs ∧ ∀ j u, cs[j]? = some u → w.cell? ⟨b, o + j, none⟩ = some u
  | .nil, _, _ => ⟨[], rfl, fun j u h => by simp at h⟩
  | .cons p k s n op ns x y z r, o, h => by
    obtain ⟨hp, h0, h1, h2, h3, ⟨vn, va, vb, vc, h4, h5, h6, h7, hx⟩, hr⟩ := fxAt_cons.1 h
    obtain ⟨cr, hcr, hcc⟩ := fxAt_rw hr
    obtain ⟨pc, hpc, hpcc⟩ : ∃ pc, PreC ok w m p pc ∧ ∀ j u, pc[j]? = some u → w.cell? ⟨b, o + j, none⟩ = some u := by
      cases p with
      | no => exact ⟨[], ⟨hp, rfl⟩, fun j u h => by simp at h⟩
      | bind s' => exact ⟨_, ⟨hp.1, rfl⟩, fun j u h => by
          match j, h with
          | 0, h => simp only [List.getElem?_cons_zero, Option.some.injEq] at h; subst h; exact hp.2⟩
      | alt k' s' n' ns' =>
        obtain ⟨hm, g0, g1, g2, v, g3, hv⟩ := hp
        exact ⟨_, ⟨hm, v, rfl, hv⟩, fun j u h => by
          match j, h with
          | 0, h => simp only [List.getElem?_cons_zero, Option.some.injEq] at h; subst h; exact g0
          | 1, h => simp only [List.getElem?_cons_succ, List.getElem?_cons_zero, Option.some.injEq] at h; subst h; exact g1
          | 2, h => simp only [List.getElem?_cons_succ, List.getElem?_cons_zero, Option.some.injEq] at h; subst h; exact g2
          | 3, h => simp only [List.getElem?_cons_succ, List.getElem?_cons_zero, Option.some.injEq] at h; subst h; exact g3⟩
    have hl := hpc.len
    refine ⟨_, ⟨pc, vn, va, vb, vc, cr, hpc, rfl, hx, hcr⟩, fun j u hj => ?_⟩
    by_cases hjm : j < pc.length
    · rw [List.getElem?_append_left hjm] at hj
      exact hpcc j u hj
    · rw [List.getElem?_append_right (by omega), hl] at hj
      obtain ⟨i, rfl⟩ : ∃ i, j = m + i := ⟨j - m, by omega⟩
      rw [show m + i - m = i by omega] at hj
      rw [← Nat.add_assoc]
      match i, hj with
      | 0, hj => simp only [List.getElem?_cons_zero, Option.some.injEq] at hj; subst hj; exact h0
      | 1, hj => simp only [List.getElem?_cons_succ, List.getElem?_cons_zero, Option.some.injEq] at hj; subst hj; exact h1
      | 2, hj => simp only [List.getElem?_cons_succ, List.getElem?_cons_zero, Option.some.injEq] at hj; subst hj; exact h2
      | 3, hj => simp only [List.getElem?_cons_succ, List.getElem?_cons_zero, Option.some.injEq] at hj; subst hj; exact h3
      | 4, hj => simp only [List.getElem?_cons_succ, List.getElem?_cons_zero, Option.some.injEq] at hj; subst hj; exact h4
      | 5, hj => simp only [List.getElem?_cons_succ, List.getElem?_cons_zero, Option.some.injEq] at hj; subst hj; exact h5
      | 6, hj => simp only [List.getElem?_cons_succ, List.getElem?_cons_zero, Option.some.injEq] at hj; subst hj; exact h6
      | 7, hj => simp only [List.getElem?_cons_succ, List.getElem?_cons_zero, Option.some.injEq] at hj; subst hj; exact h7
      | i + 8, hj =>
        simp only [List.getElem?_cons_succ] at hj
        have := hcc i u hj
        rw [show o + m + (i + 8) = o + (m + 8) + i by omega]
        exact this
/-- Such cells lie as such a row. -/
theorem RwRow.at {ok : Nat → Prop} {w : World} {m b : Nat} : ∀ {f : Fx} {cs : List Value} {o : Nat}, RwRow ok w m f cs → (∀ j u, cs[j]? = some u → w.cell? ⟨b, o + j, none⟩ = some u) → FxAt ok w m b o f
  | .nil, _, _, _, _ => trivial
  | .cons p k s n op ns x y z r, cs, o, ⟨pc, vn, va, vb, vc, cr, hp, e, hx, hr⟩, hc => by
    subst e
    have hl := hp.len
    have hq : ∀ i u, (Value.int .i64 k :: .string (bt s) :: .int .i64 n :: .int .i64 op :: vn :: va :: vb :: vc :: cr)[i]? = some u → w.cell? ⟨b, o + m + i, none⟩ = some u := fun i u h => by
      rw [Nat.add_assoc]
      refine hc (m + i) u ?_
      rw [List.getElem?_append_right (by omega), hl, show m + i - m = i by omega]
      exact h
    have hpa : PreAt ok w m b o p := by
      have hpc : ∀ i u, pc[i]? = some u → w.cell? ⟨b, o + i, none⟩ = some u := fun i u h => hc i u (by rw [List.getElem?_append_left (List.getElem?_eq_some_iff.1 h).1]; exact h)
      cases p with
      | no => exact hp.1
      | bind s' => obtain ⟨hm, rfl⟩ := hp; exact ⟨hm, hpc 0 _ rfl⟩
      | alt k' s' n' ns' => obtain ⟨hm, v, rfl, hv⟩ := hp; exact ⟨hm, hpc 0 _ rfl, hpc 1 _ rfl, hpc 2 _ rfl, v, hpc 3 _ rfl, hv⟩
    refine fxAt_cons.2 ⟨hpa, hq 0 _ rfl, hq 1 _ rfl, hq 2 _ rfl, hq 3 _ rfl, ⟨vn, va, vb, vc, hq 4 _ rfl, hq 5 _ rfl, hq 6 _ rfl, hq 7 _ rfl, hx⟩, RwRow.at hr fun j u hj => ?_⟩
    rw [show o + (m + 8) + j = o + m + (j + 8) by omega]
    exact hq (j + 8) u hj
/-- A row that the program has built reads as what it holds. -/
theorem RwRow.value {ok ok' : Nat → Prop} {w : World} {base n m : Nat} {T : TypeId} {v : Value} {f : Fx} {cs : List Value} (h : RwRow ok w m f cs) (hown : w.ownsRow base T (m + 8) v n cs) (hn : n = f.len) (hok : ∀ b, ok b → ok' b) (hg : ∀ g, v.ownBlock = some g → ok' g) : FxV ok' w m v f := by
  obtain ⟨hl, ho⟩ := hown
  rcases ho with ⟨rfl, h0⟩ | ⟨g, cap, cur, rfl, hgb, hh, hc, hm, hs, ht⟩
  · have : f = .nil := Fx.len_zero (by omega)
    subst this
    exact .inl ⟨rfl, _, _, rfl⟩
  · by_cases hf : f = .nil
    · subst hf
      subst hn
      exact .inl ⟨rfl, _, _, rfl⟩
    · subst hn
      refine .inr ⟨hf, g, 0, cap, rfl, hg g rfl, hc, hm, (h.keep (keep_le w hok)).at fun j u hj => ?_⟩
      have hlt : j < f.len * (m + 8) := by
        have := (List.getElem?_eq_some_iff.1 hj).1
        omega
      rw [← ht, List.getElem?_take_of_lt hlt] at hj
      simp [World.cell?, hh]
      simpa using hj
end Go.Proofs.YtfcogjlojfcfkaaGreat
end

section
namespace Go.Proofs.YtfcogjlojfcfkaaGreat
open Go.RowKit Ex0
attribute [local go_sem] bt_size bt_list bt_toList

theorem info_bind' : (Tryz.prog.info? 38).map (fun i => (i.zero, i.size, i.bytes)) = some (some (.agg #[.string ⟨#[]⟩, .int .i64 0, .string ⟨#[]⟩, .int .i64 0, .int .i64 0, .slice none 0 0, .slice none 0 0, .slice none 0 0, .slice none 0 0]), 9, 152) := by kernel_rfl
theorem info_alt : (Tryz.prog.info? 40).map (fun i => (i.zero, i.size, i.bytes)) = some (some (.agg #[.int .i64 0, .string ⟨#[]⟩, .int .i64 0, .slice none 0 0, .int .i64 0, .string ⟨#[]⟩, .int .i64 0, .int .i64 0, .slice none 0 0, .slice none 0 0, .slice none 0 0, .slice none 0 0]), 12, 192) := by kernel_rfl
theorem info_str : (Tryz.prog.info? 9).map (fun i => (i.zero, i.size, i.bytes)) = some (some (.string ⟨#[]⟩), 1, 16) := by kernel_rfl

set_option maxHeartbeats 1000000 in
set_option maxRecDepth 100000 in
theorem clone_str (ad : Option Addr) (n c : Nat) (cs : List Value) (w : World) (hcs : cs.length = n * 1) (hn : n ≤ 1048576) (h : n ≠ 0 → ∃ b o, ad = some ⟨b, o, none⟩ ∧ ∀ j u, cs[j]? = some u → w.cell? ⟨b, o + j, none⟩ = some u) (h1 : ∀ u ∈ cs, u.oneCell' = true) :
    Calls Tryz.prog 38 #[.slice ad n c] w fun e w' => ∃ v', e = .returned v' ∧ w'.ownsRow w.heap.size 9 1 v' n cs ∧ Below w.heap.size w w' := by
  have hu : Tryz.prog.underlying 22 = some (.slice 9) := by kernel_rfl
  have q := fun (w : World) (a : Option Addr) (n c n' c' : Nat) => Lib.run_eql_slice_nil w _ _ a n c n' c' hu
  cases ad with
  | none =>
    have hn0 : n = 0 := by
      by_cases h0 : n = 0
      · exact h0
      · obtain ⟨b, o, e, _⟩ := h h0
        cases e
    subst hn0
    have hcs0 : cs = [] := List.eq_nil_of_length_eq_zero (by omega)
    subst hcs0
    clear h h1 hcs
    go_enter Tryz.func38, Tryz.ntmps38
    go_wp2_with fail
    go_ret
    exact ⟨_, rfl, World.ownsRow_nil _ _ _ _, Below.refl _ _⟩
  | some a =>
    obtain ⟨i0, hi, hz0, hz1, hz2⟩ := info_of info_str
    have HI := Lib.hid (And.intro hi (And.intro hz0 (And.intro hz1 hz2)))
    have HC := Lib.hid (show ∀ W : World, (∀ b o, b < w.heap.size → W.cell? ⟨b, o, none⟩ = w.cell? ⟨b, o, none⟩) → ∀ j u, cs[j]? = some u → W.cell? (a.add j) = some u from fun W hW j u hj => by
      have hlt := (List.getElem?_eq_some_iff.1 hj).1
      obtain ⟨b, o, e, hc⟩ := h (by intro h0; subst h0; omega)
      cases e
      have hadd : (Addr.mk b o none).add j = ⟨b, o + j, none⟩ := by unfold Addr.add; split <;> simp_all
      have h2 := hc j u hj
      rw [hadd, hW b (o + j) (cell_block h2)]
      exact h2)
    clear hi hz0 hz1 hz2 h
    go_enter Tryz.func38, Tryz.ntmps38
    go_wp2_with (at_builtin; refine wpList_append_own_at _ rfl _ _ 22 rfl w.heap.size 9 i0 _ 1 16 hu HI.out.1 HI.out.2.1 HI.out.2.2.1 HI.out.2.2.2 rfl (by decide) _ _ _ rfl (World.ownsRow_made w #[] 0 (Nat.le_refl _) (Nat.zero_le _) rfl) a n c cs rfl hcs (HC.out _ (fun b o hb => (below_alloc' w _).cell (p := ⟨b, o, none⟩) hb)) h1 (by simp only [maxLen]; omega) (by omega) (by simp) ?_; intro v6 w6 hown6 hgrow _ _; have HW := Lib.hid (And.intro hown6 hgrow); clear hown6 hgrow)
    go_ret
    have h6 := HW.out.1
    rw [Nat.zero_add, List.nil_append] at h6
    exact ⟨_, rfl, h6, (below_alloc' w _).grown HW.out.2 (by simp) (fun k hk => by cases hk; exact Nat.le_refl _)⟩

set_option maxHeartbeats 1000000 in
set_option maxRecDepth 100000 in
theorem clone_ex (ad : Option Addr) (n c : Nat) (cs : List Value) (w : World) (hcs : cs.length = n * 8) (hn : n ≤ 1048576) (h : n ≠ 0 → ∃ b o, ad = some ⟨b, o, none⟩ ∧ ∀ j u, cs[j]? = some u → w.cell? ⟨b, o + j, none⟩ = some u) (h1 : ∀ u ∈ cs, u.oneCell' = true) :
    Calls Tryz.prog 39 #[.slice ad n c] w fun e w' => ∃ v', e = .returned v' ∧ w'.ownsRow w.heap.size 27 8 v' n cs ∧ Below w.heap.size w w' := by
  have hu : Tryz.prog.underlying 23 = some (.slice 27) := by kernel_rfl
  have q := fun (w : World) (a : Option Addr) (n c n' c' : Nat) => Lib.run_eql_slice_nil w _ _ a n c n' c' hu
  cases ad with
  | none =>
    have hn0 : n = 0 := by
      by_cases h0 : n = 0
      · exact h0
      · obtain ⟨b, o, e, _⟩ := h h0
        cases e
    subst hn0
    have hcs0 : cs = [] := List.eq_nil_of_length_eq_zero (by omega)
    subst hcs0
    clear h h1 hcs
    go_enter Tryz.func39, Tryz.ntmps39
    go_wp2_with fail
    go_ret
    exact ⟨_, rfl, World.ownsRow_nil _ _ _ _, Below.refl _ _⟩
  | some a =>
    obtain ⟨i0, hi, hz0, hz1, hz2⟩ := info_of info_ex
    have HI := Lib.hid (And.intro hi (And.intro hz0 (And.intro hz1 hz2)))
    have HC := Lib.hid (show ∀ W : World, (∀ b o, b < w.heap.size → W.cell? ⟨b, o, none⟩ = w.cell? ⟨b, o, none⟩) → ∀ j u, cs[j]? = some u → W.cell? (a.add j) = some u from fun W hW j u hj => by
      have hlt := (List.getElem?_eq_some_iff.1 hj).1
      obtain ⟨b, o, e, hc⟩ := h (by intro h0; subst h0; omega)
      cases e
      have hadd : (Addr.mk b o none).add j = ⟨b, o + j, none⟩ := by unfold Addr.add; split <;> simp_all
      have h2 := hc j u hj
      rw [hadd, hW b (o + j) (cell_block h2)]
      exact h2)
    clear hi hz0 hz1 hz2 h
    go_enter Tryz.func39, Tryz.ntmps39
    go_wp2_with (at_builtin; refine wpList_append_own_at _ rfl _ _ 23 rfl w.heap.size 27 i0 _ 8 136 hu HI.out.1 HI.out.2.1 HI.out.2.2.1 HI.out.2.2.2 rfl (by decide) _ _ _ rfl (World.ownsRow_made w #[] 0 (Nat.le_refl _) (Nat.zero_le _) rfl) a n c cs rfl hcs (HC.out _ (fun b o hb => (below_alloc' w _).cell (p := ⟨b, o, none⟩) hb)) h1 (by simp only [maxLen]; omega) (by omega) (by simp) ?_; intro v6 w6 hown6 hgrow _ _; have HW := Lib.hid (And.intro hown6 hgrow); clear hown6 hgrow)
    go_ret
    have h6 := HW.out.1
    rw [Nat.zero_add, List.nil_append] at h6
    exact ⟨_, rfl, h6, (below_alloc' w _).grown HW.out.2 (by simp) (fun k hk => by cases hk; exact Nat.le_refl _)⟩

set_option maxHeartbeats 1000000 in
set_option maxRecDepth 100000 in
theorem clone_bind (ad : Option Addr) (n c : Nat) (cs : List Value) (w : World) (hcs : cs.length = n * 9) (hn : n ≤ 1048576) (h : n ≠ 0 → ∃ b o, ad = some ⟨b, o, none⟩ ∧ ∀ j u, cs[j]? = some u → w.cell? ⟨b, o + j, none⟩ = some u) (h1 : ∀ u ∈ cs, u.oneCell' = true) :
    Calls Tryz.prog 40 #[.slice ad n c] w fun e w' => ∃ v', e = .returned v' ∧ w'.ownsRow w.heap.size 38 9 v' n cs ∧ Below w.heap.size w w' := by
  have hu : Tryz.prog.underlying 24 = some (.slice 38) := by kernel_rfl
  have q := fun (w : World) (a : Option Addr) (n c n' c' : Nat) => Lib.run_eql_slice_nil w _ _ a n c n' c' hu
  cases ad with
  | none =>
    have hn0 : n = 0 := by
      by_cases h0 : n = 0
      · exact h0
      · obtain ⟨b, o, e, _⟩ := h h0
        cases e
    subst hn0
    have hcs0 : cs = [] := List.eq_nil_of_length_eq_zero (by omega)
    subst hcs0
    clear h h1 hcs
    go_enter Tryz.func40, Tryz.ntmps40
    go_wp2_with fail
    go_ret
    exact ⟨_, rfl, World.ownsRow_nil _ _ _ _, Below.refl _ _⟩
  | some a =>
    obtain ⟨i0, hi, hz0, hz1, hz2⟩ := info_of info_bind'
    have HI := Lib.hid (And.intro hi (And.intro hz0 (And.intro hz1 hz2)))
    have HC := Lib.hid (show ∀ W : World, (∀ b o, b < w.heap.size → W.cell? ⟨b, o, none⟩ = w.cell? ⟨b, o, none⟩) → ∀ j u, cs[j]? = some u → W.cell? (a.add j) = some u from fun W hW j u hj => by
      have hlt := (List.getElem?_eq_some_iff.1 hj).1
      obtain ⟨b, o, e, hc⟩ := h (by intro h0; subst h0; omega)
      cases e
      have hadd : (Addr.mk b o none).add j = ⟨b, o + j, none⟩ := by unfold Addr.add; split <;> simp_all
      have h2 := hc j u hj
      rw [hadd, hW b (o + j) (cell_block h2)]
      exact h2)
    clear hi hz0 hz1 hz2 h
    go_enter Tryz.func40, Tryz.ntmps40
    go_wp2_with (at_builtin; refine wpList_append_own_at _ rfl _ _ 24 rfl w.heap.size 38 i0 _ 9 152 hu HI.out.1 HI.out.2.1 HI.out.2.2.1 HI.out.2.2.2 rfl (by decide) _ _ _ rfl (World.ownsRow_made w #[] 0 (Nat.le_refl _) (Nat.zero_le _) rfl) a n c cs rfl hcs (HC.out _ (fun b o hb => (below_alloc' w _).cell (p := ⟨b, o, none⟩) hb)) h1 (by simp only [maxLen]; omega) (by omega) (by simp) ?_; intro v6 w6 hown6 hgrow _ _; have HW := Lib.hid (And.intro hown6 hgrow); clear hown6 hgrow)
    go_ret
    have h6 := HW.out.1
    rw [Nat.zero_add, List.nil_append] at h6
    exact ⟨_, rfl, h6, (below_alloc' w _).grown HW.out.2 (by simp) (fun k hk => by cases hk; exact Nat.le_refl _)⟩

set_option maxHeartbeats 1000000 in
set_option maxRecDepth 100000 in
theorem clone_alt (ad : Option Addr) (n c : Nat) (cs : List Value) (w : World) (hcs : cs.length = n * 12) (hn : n ≤ 1048576) (h : n ≠ 0 → ∃ b o, ad = some ⟨b, o, none⟩ ∧ ∀ j u, cs[j]? = some u → w.cell? ⟨b, o + j, none⟩ = some u) (h1 : ∀ u ∈ cs, u.oneCell' = true) :
    Calls Tryz.prog 41 #[.slice ad n c] w fun e w' => ∃ v', e = .returned v' ∧ w'.ownsRow w.heap.size 40 12 v' n cs ∧ Below w.heap.size w w' := by
  have hu : Tryz.prog.underlying 25 = some (.slice 40) := by kernel_rfl
  have q := fun (w : World) (a : Option Addr) (n c n' c' : Nat) => Lib.run_eql_slice_nil w _ _ a n c n' c' hu
  cases ad with
  | none =>
    have hn0 : n = 0 := by
      by_cases h0 : n = 0
      · exact h0
      · obtain ⟨b, o, e, _⟩ := h h0
        cases e
    subst hn0
    have hcs0 : cs = [] := List.eq_nil_of_length_eq_zero (by omega)
    subst hcs0
    clear h h1 hcs
    go_enter Tryz.func41, Tryz.ntmps41
    go_wp2_with fail
    go_ret
    exact ⟨_, rfl, World.ownsRow_nil _ _ _ _, Below.refl _ _⟩
  | some a =>
    obtain ⟨i0, hi, hz0, hz1, hz2⟩ := info_of info_alt
    have HI := Lib.hid (And.intro hi (And.intro hz0 (And.intro hz1 hz2)))
    have HC := Lib.hid (show ∀ W : World, (∀ b o, b < w.heap.size → W.cell? ⟨b, o, none⟩ = w.cell? ⟨b, o, none⟩) → ∀ j u, cs[j]? = some u → W.cell? (a.add j) = some u from fun W hW j u hj => by
      have hlt := (List.getElem?_eq_some_iff.1 hj).1
      obtain ⟨b, o, e, hc⟩ := h (by intro h0; subst h0; omega)
      cases e
      have hadd : (Addr.mk b o none).add j = ⟨b, o + j, none⟩ := by unfold Addr.add; split <;> simp_all
      have h2 := hc j u hj
      rw [hadd, hW b (o + j) (cell_block h2)]
      exact h2)
    clear hi hz0 hz1 hz2 h
    go_enter Tryz.func41, Tryz.ntmps41
    go_wp2_with (at_builtin; refine wpList_append_own_at _ rfl _ _ 25 rfl w.heap.size 40 i0 _ 12 192 hu HI.out.1 HI.out.2.1 HI.out.2.2.1 HI.out.2.2.2 rfl (by decide) _ _ _ rfl (World.ownsRow_made w #[] 0 (Nat.le_refl _) (Nat.zero_le _) rfl) a n c cs rfl hcs (HC.out _ (fun b o hb => (below_alloc' w _).cell (p := ⟨b, o, none⟩) hb)) h1 (by simp only [maxLen]; omega) (by omega) (by simp) ?_; intro v6 w6 hown6 hgrow _ _; have HW := Lib.hid (And.intro hown6 hgrow); clear hown6 hgrow)
    go_ret
    have h6 := HW.out.1
    rw [Nat.zero_add, List.nil_append] at h6
    exact ⟨_, rfl, h6, (below_alloc' w _).grown HW.out.2 (by simp) (fun k hk => by cases hk; exact Nat.le_refl _)⟩
end Go.Proofs.YtfcogjlojfcfkaaGreat
end

section
namespace Go.Proofs.YtfcogjlojfcfkaaGreat
open Go.RowKit Go.Shelf Ex0
attribute [local go_sem] bt_size bt_list bt_toList

/-- In a block lies a replacer. -/
def RpAt (w : World) (rb : Nat) (x : List UInt8) (ya : Addr) (yb room : Int) : Prop := w.heap[rb]? = some (.cells #[.string (bt x), .pointer (some ya), .int .i64 yb, .int .i64 room] 61 (0, 0))
set_option maxHeartbeats 1000000 in
theorem rbound1_any (rb : Nat) (ya : Addr) (yb room : Int) (s : List UInt8) (v1 v2 v3 v4 v5 v6 v7 v8 : Value) (x : List UInt8) (w : World) (hc : RpAt w rb x ya yb room) :
    Calls Tryz.prog 37 #[.pointer (some ⟨rb, 0, none⟩), .agg #[.string (bt s), v1, v2, v3, v4, v5, v6, v7, v8]] w fun e w' => e = .returned (.bool (s == x)) ∧ Below w.heap.size w w' := by
  have c0 := cell_of hc 0 _ rfl
  have z0 := cell_al (Array.getElem?_eq_some_iff.1 hc).1 c0
  clear hc c0
  go_enter Tryz.func37, Tryz.ntmps37
  go_wp2_with fail
  go_quiet (fail)
  go_wp2_with fail
  go_ret
  exact ⟨rfl, below_same (below_alloc' _ _) rfl rfl rfl rfl⟩

set_option maxHeartbeats 2000000 in
set_option maxRecDepth 100000 in
theorem rindexf_any (rb : Nat) (ya : Addr) (yb room : Int) (v : Value) (b : Fx) (x : List UInt8) (w : World) (M : Nat) (hl : b.len ≤ 1048576) (hv : FxV (Old M) w 1 v b) (hMw : M ≤ w.heap.size) (hc : RpAt w rb x ya yb room) :
    Calls Tryz.prog 60 #[v, .func (.func 37) #[.pointer (some ⟨rb, 0, none⟩)] #[]] w fun e w' => (∃ i : Int, e = .returned (.int .i64 i) ∧ (0 ≤ i ↔ bindsX x b = true)) ∧ Below w.heap.size w w' := by
  obtain ⟨a, c, rfl⟩ := hv.slice
  have HV := Lib.hid hv
  have HC := Lib.hid hc
  have hcl : rb < w.heap.size := (Array.getElem?_eq_some_iff.1 hc).1
  clear hv hc
  go_enter Tryz.func60, Tryz.ntmps60
  go_wp2_with fail
  go_loopw [8] (fun i wr => ∃ f1 f2 : Fx, b = f1.app f2 ∧ i = .int .i64 f1.len ∧ bindsX x f1 = false ∧ Below w.heap.size w wr) (fun i _ => b.len - (intOf i).toNat)
  case atStart => exact ⟨.nil, b, rfl, rfl, rfl, Below.refl _ _⟩
  case round =>
    obtain ⟨f1, f2, hf, rfl, hno, hbel⟩ := hrel
    have HF := Lib.hid hf
    have HN := Lib.hid hno
    have HB := Lib.hid hbel
    have HW := hbel.size
    have HCw := Lib.hid (show RpAt wr rb x ya yb room from (hbel.block rb hcl).trans HC.out)
    clear hf hno hbel
    have hfl := congrArg Fx.len HF.out
    rw [Fx.len_app] at hfl
    cases f2 with
    | nil =>
      rw [Fx.app_nil] at HF
      have hlt : ¬ f1.len < b.len := by simp only [Fx.len] at hfl; omega
      have HT := Lib.hid (show bindsX x b = false by rw [HF.out]; exact HN.out)
      clear hfl
      go_wp2_with fail
      go_ret
      exact ⟨⟨_, rfl, by simp [HT.out]⟩, HB.out⟩
    | cons p1 k1 s1 n1 op1 ns1 xa xb xc r =>
      have hlt : f1.len < b.len := by simp only [Fx.len] at hfl; omega
      obtain ⟨bb, oo, xn, va, vb, vc, rfl, hbb, hlc, hcm, _, hp, c0, c1, c2, c3, c4, c5, c6, c7, hx⟩ := fx_at (HV.out.keep (keep_below (HB.out.mono hMw) fun _ h => h)) HF.out
      clear hx hfl
      cases p1 with
      | no => exact absurd (show (1 : Nat) = 0 from hp) (by decide)
      | alt k s n ns => exact absurd hp.1 (by decide)
      | bind t =>
        obtain ⟨_, e0⟩ := hp
        simp only [Nat.reduceAdd] at e0 c0 c1 c2 c3 c4 c5 c6 c7
        unfold maxLen at hcm
        go_wp2_with fail
        refine (rbound1_any rb ya yb room t _ _ _ _ _ _ _ _ x _ HCw.out).mono ?_
        rintro e w3 ⟨rfl, hb3⟩
        have HB3 := Lib.hid (blwS HB.out hb3 HW)
        clear hb3
        cases hq : (t == x) with
        | true =>
          have HT := Lib.hid (show bindsX x b = true by rw [HF.out]; exact binds_left (by simpa using hq))
          clear hq
          go_wp2_with fail
          go_ret
          exact ⟨⟨_, rfl, by simp [HT.out]⟩, HB3.out⟩
        | false =>
          have HT := Lib.hid (show decide (Pre.bind t = .bind x) = false by simpa using hq)
          clear hq
          go_wp2_with fail
          go_roundw
          case rel => exact ⟨f1.app (.cons (.bind t) k1 s1 n1 op1 ns1 xa xb xc .nil), r, by rw [Fx.app_app]; exact HF.out, by rw [Fx.len_app]; simp only [Fx.len]; go_num, binds_next HN.out HT.out, HB3.out⟩
          case measure => simp [intOf]; omega

theorem rcontainsf_any (rb : Nat) (ya : Addr) (yb room : Int) (v : Value) (b : Fx) (x : List UInt8) (w : World) (M : Nat) (hl : b.len ≤ 1048576) (hv : FxV (Old M) w 1 v b) (hMw : M ≤ w.heap.size) (hc : RpAt w rb x ya yb room) :
    Calls Tryz.prog 36 #[v, .func (.func 37) #[.pointer (some ⟨rb, 0, none⟩)] #[]] w fun e w' => e = .returned (.bool (bindsX x b)) ∧ Below w.heap.size w w' := by
  obtain ⟨a, c, rfl⟩ := hv.slice
  have HV := Lib.hid hv
  have HC := Lib.hid hc
  clear hv hc
  go_enter Tryz.func36, Tryz.ntmps36
  go_wp2_with fail
  refine (rindexf_any rb ya yb room _ b x _ M hl HV.out hMw HC.out).mono ?_
  rintro e w2 ⟨⟨i, rfl, hi⟩, hb2⟩
  have HI := Lib.hid (show decide (i ≥ 0) = bindsX x b by
    cases h : bindsX x b with
    | true => exact decide_eq_true (hi.2 h)
    | false => exact decide_eq_false (fun k => by rw [hi.1 k] at h; cases h))
  have HB2 := Lib.hid hb2
  clear hi hb2
  go_wp2_with fail
  go_ret
  exact ⟨by rw [← HI.out]; rfl, HB2.out⟩

theorem binds_iff (x : List UInt8) (f : Fx) : bindsX x f = true ↔ x ∈ bnames f := by
  induction f with
  | nil => simp [bindsX, bnames]
  | cons p k s n op ns a b c r _ _ _ ih =>
    simp only [bindsX, Bool.or_eq_true, ih, decide_eq_true_eq]
    cases p with
    | no => simp [bnames]
    | alt _ _ _ _ => simp [bnames]
    | bind s' =>
      simp only [bnames, List.mem_cons, Pre.bind.injEq]
      constructor
      · rintro (rfl | h)
        · exact .inl rfl
        · exact .inr h
      · rintro (rfl | h)
        · exact .inl rfl
        · exact .inr h
theorem binds_mem (x : List UInt8) (f : Fx) : bindsX x f = decide (x ∈ bnames f) := by
  cases h : bindsX x f with
  | true => exact (decide_eq_true ((binds_iff x f).1 h)).symm
  | false => exact (decide_eq_false (fun h2 => by rw [(binds_iff x f).2 h2] at h; cases h)).symm
end Go.Proofs.YtfcogjlojfcfkaaGreat
end
