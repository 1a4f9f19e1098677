/- Contracts of the methods of source: wrong, advance and skip, over a source that lies whole in a block of its own; other blocks stay. Places and rests are those of a text of at most 16384 bytes. -/
import Derived.Test.YtbjbmehkcfpahaaToken
import Derived.RegionTactic
import Derived.BigRegion
namespace Go.Proofs.Ytbjbmehkcfpahaa
open Go.RowKit Lx
attribute [local go_sem] bt_size bt_get bt_list bt_toList bt_drop bt_take

/-- Block g is a source: what is left, and where that begins. -/
def SrcAt (w : World) (g : Nat) (r : List UInt8) (p : Nat × Nat) : Prop :=
  w.heap[g]? = some (.cells #[.string (bt r), .int .i64 (p.1 : Int), .int .i64 (p.2 : Int)] 37 (0, 0))

/-- Places that a text of at most 16384 bytes has. -/
def Bd (r : List UInt8) (p : Nat × Nat) : Prop := p.1 + r.length ≤ 16385 ∧ p.2 + r.length ≤ 16385 ∧ r.length ≤ 16384

theorem src_cells {w : World} {g : Nat} {r : List UInt8} {p : Nat × Nat} (h : SrcAt w g r p) :
    w.cell? ⟨g, 0, none⟩ = some (.string (bt r)) ∧ w.cell? ⟨g, 1, none⟩ = some (.int .i64 (p.1 : Int)) ∧ w.cell? ⟨g, 2, none⟩ = some (.int .i64 (p.2 : Int)) := by
  unfold SrcAt at h
  simp [World.cell?, h]

theorem src_frozen {w : World} {g : Nat} {r : List UInt8} {p : Nat × Nat} (h : SrcAt w g r p) (i : Nat) : w.frozen? ⟨g, i, none⟩ = false := by
  unfold SrcAt at h
  simp [World.frozen?, h]

theorem src_lt {w : World} {g : Nat} {r : List UInt8} {p : Nat × Nat} (h : SrcAt w g r p) : g < w.heap.size := (Array.getElem?_eq_some_iff.1 h).1

theorem lastNl_le (l : List UInt8) : ∀ k, lastNl l k ≤ k
  | 0 => Nat.le_refl _
  | k + 1 => by unfold lastNl; split; omega; have := lastNl_le l k; omega

theorem lastNl_cons (c : UInt8) (l : List UInt8) : ∀ k, lastNl (c :: l) (k + 1) = if lastNl l k = 0 then (if c = 10 then 1 else 0) else lastNl l k + 1
  | 0 => by simp [lastNl]
  | k + 1 => by
    have ih := lastNl_cons c l k
    rw [lastNl]
    simp only [List.getElem?_cons_succ]
    by_cases h : l[k]? = some 10
    · rw [if_pos h]
      have : lastNl l (k + 1) = k + 1 := by rw [lastNl, if_pos h]
      rw [this]
      simp
    · rw [if_neg h]
      have : lastNl l (k + 1) = lastNl l k := by rw [lastNl, if_neg h]
      rw [this, ih]

theorem lastNl_zero (l : List UInt8) : lastNl l l.length = 0 ↔ l.count 10 = 0 := by
  induction l with
  | nil => simp [lastNl]
  | cons c l ih =>
    rw [List.length_cons, lastNl_cons]
    by_cases h : lastNl l l.length = 0
    · have h2 := ih.1 h
      rw [if_pos h]
      by_cases hc : c = 10
      · subst hc; simp
      · simp [hc, h2]
    · have h2 : ¬ l.count 10 = 0 := fun e => h (ih.2 e)
      rw [if_neg h]
      simp [List.count_cons]
      omega

theorem advL_eq : ∀ (l : List UInt8) (p : Nat × Nat), advL p l = if l.count 10 = 0 then (p.1, p.2 + l.length) else (p.1 + l.count 10, l.length - lastNl l l.length + 1)
  | [], p => by simp [advL]
  | c :: l, p => by
    have hz := lastNl_zero l
    have hle := lastNl_le l l.length
    rw [advL, advL_eq l, List.length_cons, lastNl_cons]
    by_cases hc : c = 10
    · subst hc
      by_cases h : l.count 10 = 0
      · have h2 := hz.2 h
        simp [h, h2]
        omega
      · have h2 : ¬ lastNl l l.length = 0 := fun e => h (hz.1 e)
        simp [h, h2]
        omega
    · have hcc : (c :: l).count 10 = l.count 10 := by simp [hc]
      rw [hcc]
      by_cases h : l.count 10 = 0
      · simp [h, hc]
        omega
      · have h2 : ¬ lastNl l l.length = 0 := fun e => h (hz.1 e)
        simp [h, h2, hc]

theorem count_bound (l : List UInt8) : l.count 10 ≤ l.length := List.count_le_length

theorem adv_bd (l : List UInt8) (p : Nat × Nat) (h1 : 1 ≤ p.2) : (advL p l).1 ≤ p.1 + l.length ∧ (advL p l).2 ≤ p.2 + l.length := by
  rw [advL_eq]
  have := count_bound l
  split <;> simp <;> omega

/-- A source set anew. -/
theorem src_set {w : World} {g : Nat} {r : List UInt8} {p : Nat × Nat} (h : SrcAt w g r p) (r' : List UInt8) (q : Nat × Nat) :
    SrcAt (((w.setCell ⟨g, 0, none⟩ (.string (bt r'))).setCell ⟨g, 1, none⟩ (.int .i64 (q.1 : Int))).setCell ⟨g, 2, none⟩ (.int .i64 (q.2 : Int))) g r' q := by
  unfold SrcAt at h ⊢
  simp [World.setCell, Array.getElem?_modify, h]

theorem src_set2 {w : World} {g : Nat} {r : List UInt8} {p : Nat × Nat} (h : SrcAt w g r p) (r' : List UInt8) (c : Nat) :
    SrcAt ((w.setCell ⟨g, 0, none⟩ (.string (bt r'))).setCell ⟨g, 2, none⟩ (.int .i64 (c : Int))) g r' (p.1, c) := by
  unfold SrcAt at h ⊢
  simp [World.setCell, Array.getElem?_modify, h]

theorem only_set {a w : World} {g : Nat} (h : a.grownBy w (some g)) (i : Nat) (u : Value) : a.grownBy (w.setCell ⟨g, i, none⟩ u) (some g) :=
  ⟨h.os, h.tape, h.output, by simpa [World.setCell] using h.size, fun k hk hne => (Below.heap_setCell w ⟨g, i, none⟩ u k (by
    rintro rfl
    exact hne rfl)).trans (h.block k hk hne)⟩

def AdvPost (w : World) (g : Nat) (r : List UInt8) (p : Nat × Nat) (n : Nat) (w' : World) : Prop := SrcAt w' g (r.drop n) (advL p (r.take n)) ∧ w.grownBy w' (some g)

set_option maxHeartbeats 800000 in
set_option maxRecDepth 100000 in
theorem advance_any (w : World) (g : Nat) (r : List UInt8) (p : Nat × Nat) (n : Nat) (hsrc : SrcAt w g r p) (hn : n ≤ r.length) (hbd : Bd r p) :
    Calls Try.prog 18 #[.pointer (some ⟨g, 0, none⟩), .int .i64 (n : Int)] w fun e w' => e = .returned (.tuple #[]) ∧ AdvPost w g r p n w' := by
  obtain ⟨c0, c1, c2⟩ := src_cells hsrc
  have f0 := src_frozen hsrc 0
  have f1 := src_frozen hsrc 1
  have f2 := src_frozen hsrc 2
  have HS := Lib.hid hsrc
  clear hsrc
  obtain ⟨b1, b2, b3⟩ := hbd
  have htl : (r.take n).length = n := by simp; omega
  have HT := Lib.hid htl
  have hml : (r.take n).length ≤ maxLen := by simp [maxLen]; omega
  have HA := Lib.hid (advL_eq (r.take n) p)
  have hcb := count_bound (r.take n)
  rw [htl] at hcb
  have hlb := lastNl_le (r.take n) (r.take n).length
  obtain ⟨M, hM⟩ : ∃ M, M = lastNl (r.take n) (r.take n).length := ⟨_, rfl⟩
  rw [← hM, htl] at hlb
  have HM := Lib.hid hM
  clear htl hM
  obtain ⟨N, hN⟩ : ∃ N, N = (r.take n).count 10 := ⟨_, rfl⟩
  rw [← hN] at hcb
  have HN := Lib.hid hN
  clear hN
  go_enter Try.func18, Try.ntmps18
  go_wp2_with fail
  refine (count_any _ _ _).mono ?_
  rintro e w1 ⟨rfl, rfl⟩
  rw [show Lib.countByte (bt (List.take n r)).data.toList 10 = (N : Int) from by rw [HN.out]; rfl]
  by_cases h0 : N = 0
  · subst h0
    have hq : advL p (r.take n) = (p.1, p.2 + n) := by rw [HA.out, if_pos HN.out.symm, HT.out]
    have HQ := Lib.hid hq
    clear hq
    go_wp2
    go_end0
    refine ⟨rfl, ?_⟩
    unfold AdvPost
    rw [HQ.out]
    refine ⟨?_, only_set (only_set ⟨rfl, rfl, rfl, Nat.le_refl _, fun _ _ _ => rfl⟩ _ _) _ _⟩
    have h2 : SrcAt ((w.setCell ⟨g, 0, none⟩ (.string (bt (r.drop n)))).setCell ⟨g, 2, none⟩ (.int .i64 ((p.2 + n : Nat) : Int))) g (r.drop n) (p.1, p.2 + n) := src_set2 HS.out _ _
    simpa using h2
  · have hq : advL p (r.take n) = (p.1 + N, n - M + 1) := by rw [HA.out, if_neg (by rw [← HN.out]; exact h0), HT.out, ← HN.out, HM.out, HT.out]
    have HQ := Lib.hid hq
    clear hq
    go_wp2_with fail
    refine (lastByte_any _ _ hml).mono ?_
    rintro e w1 ⟨rfl, rfl⟩
    rw [← HM.out]
    go_wp2
    refine bodyPost_ret (v := .tuple #[]) (by simp [results]) rfl ⟨rfl, ?_⟩
    unfold AdvPost
    rw [HQ.out]
    refine ⟨?_, only_set (only_set (only_set ⟨rfl, rfl, rfl, Nat.le_refl _, fun _ _ _ => rfl⟩ _ _) _ _) _ _⟩
    have h := src_set HS.out (r.drop n) (p.1 + N, n - M + 1)
    have e1 : ((n - M + 1 : Nat) : Int) = (n : Int) - ((M : Int) - 1) := by omega
    simp only [e1] at h
    simpa using h
end Go.Proofs.Ytbjbmehkcfpahaa
