/- The contract of the stack's push. No condition but bounds on what is open. -/
import Derived.Test.YtbjbmehkcfpahaaLayEmit
import Derived.Deep.DeepCutAuto
namespace Go.Proofs.Ytbjbmehkcfpahaa
open Go.RowKit Lx
attribute [local go_sem] bt_size bt_get bt_list bt_toList bt_drop bt_take
attribute [local go_sem ↓] Go.wp_at_zero Go.wp_at_succ

/-- The object while its two stacks are of different heights. -/
structure LayG (w : World) (s : St) (r1 r2 : List En) (out : List Rt) : Prop where
  blk : w.heap[s.g]? = some (.cells #[s.ve, s.vr, s.vo] 63 (0, 0))
  en : w.ownsRow (s.g + 1) 88 3 s.ve r1.length (ensCells r1)
  rc : w.ownsRow (s.g + 1) 105 3 s.vr r2.length (rcsCells r2)
  ou : w.ownsRow (s.g + 1) 33 5 s.vo out.length (rtsCells out)
theorem LayAt.toG {w : World} {s : St} {rs : List En} {out : List Rt} (h : LayAt w s rs out) : LayG w s rs rs out := ⟨h.blk, h.en, h.rc, h.ou⟩
theorem LayG.toAt {w : World} {s : St} {rs : List En} {out : List Rt} (h : LayG w s rs rs out) : LayAt w s rs out := ⟨h.blk, h.en, h.rc, h.ou⟩
theorem LayG.g_lt {w : World} {s : St} {r1 r2 : List En} {out : List Rt} (h : LayG w s r1 r2 out) : s.g < w.heap.size := (Array.getElem?_eq_some_iff.1 h.blk).1
theorem LayG.cells {w : World} {s : St} {r1 r2 : List En} {out : List Rt} (h : LayG w s r1 r2 out) : w.cell? ⟨s.g, 0, none⟩ = some s.ve ∧ w.cell? ⟨s.g, 1, none⟩ = some s.vr ∧ w.cell? ⟨s.g, 2, none⟩ = some s.vo := by
  have := h.blk
  simp [World.cell?, this]
theorem LayG.frozen {w : World} {s : St} {r1 r2 : List En} {out : List Rt} (h : LayG w s r1 r2 out) (i : Nat) : w.frozen? ⟨s.g, i, none⟩ = false := by
  have := h.blk
  simp [World.frozen?, this]

theorem ne_of {v v' : Value} {b : Nat} (h : v.ownBlock = none ∨ v.ownBlock ≠ v'.ownBlock) (hb : v.ownBlock = some b) : v'.ownBlock ≠ some b := by
  rcases h with h | h
  · rw [h] at hb; cases hb
  · rw [← hb]; exact fun e => h e.symm

theorem ens_done {w w1 : World} {s : St} {r1 r2 : List En} {out : List Rt} {e : En} {o : Obj} {g cap : Nat} (h : LayG w s r1 r2 out) (hown : w1.ownsRow (s.g + 1) 88 3 (.slice (some ⟨g, 0, none⟩) (r1.length + 1) cap) (r1.length + 1) (ensCells r1 ++ enCells e))
    (hgr : ((w.alloc o).drew).grownBy w1 s.ve.ownBlock) (hat : s.ve.ownBlock = some g ∨ g = ((w.alloc o).drew).heap.size) :
    ∃ s', s'.g = s.g ∧ s'.vr = s.vr ∧ LayG (w1.setCell ⟨s.g, 0, none⟩ (.slice (some ⟨g, 0, none⟩) (r1.length + 1) cap)) s' (e :: r1) r2 out ∧ Step s s' w (w1.setCell ⟨s.g, 0, none⟩ (.slice (some ⟨g, 0, none⟩) (r1.length + 1) cap)) := by
  have hz : ((w.alloc o).drew).heap.size = w.heap.size + 1 := by
    show (w.alloc o).heap.size = _
    simp
  have hold : ∀ i, i < w.heap.size → ((w.alloc o).drew).heap[i]? = w.heap[i]? := fun i hi => Below.heap_alloc _ _ _ hi
  have hblk : ∀ i, i < w.heap.size → s.ve.ownBlock ≠ some i → w1.heap[i]? = w.heap[i]? := fun i hi hn => (hgr.block i (by omega) (fun e => hn e.symm)).trans (hold i hi)
  have hgo : s.ve.ownBlock ≠ some s.g := fun e => by have := (h.en.lt _ e).1; omega
  refine ⟨⟨s.g, .slice (some ⟨g, 0, none⟩) (r1.length + 1) cap, s.vr, s.vo⟩, rfl, rfl, ?_, ?_⟩
  · exact ⟨(obj_set ((hblk _ h.g_lt hgo).trans h.blk) _).1, own_set hown (Nat.lt_succ_self _) _ _, own_set (own_same h.rc fun b hb => hblk b (h.rc.lt b hb).2 (ne_of (own_ne h.rc h.en (by decide)) hb)) (Nat.lt_succ_self _) _ _, own_set (own_same h.ou fun b hb => hblk b (h.ou.lt b hb).2 (ne_of (own_ne h.ou h.en (by decide)) hb)) (Nat.lt_succ_self _) _ _⟩
  · refine ⟨rfl, hgr.os, hgr.tape, hgr.output, by rw [size_set]; have := hgr.size; omega, fun i hi hn => ⟨?_, ?_⟩⟩
    · rw [heap_set_other _ _ _ _ _ (fun e => hn (.inl e))]
      exact hblk i hi (fun e => hn (.inr (.inl e)))
    · rintro (e | e | e | e)
      · exact hn (.inl e)
      · injection e with e
        rcases hat with hx | hx
        · exact hn (.inr (.inl (hx.trans (congrArg some e))))
        · simp at e; omega
      · exact hn (.inr (.inr (.inl e)))
      · exact hn (.inr (.inr (.inr e)))

theorem rcs_done {w w1 : World} {s : St} {r1 r2 : List En} {out : List Rt} {e : En} {o : Obj} {g cap : Nat} (h : LayG w s r1 r2 out) (hown : w1.ownsRow (s.g + 1) 105 3 (.slice (some ⟨g, 0, none⟩) (r2.length + 1) cap) (r2.length + 1) (rcsCells r2 ++ rcCells (e :: r2)))
    (hgr : ((w.alloc o).drew).grownBy w1 s.vr.ownBlock) (hat : s.vr.ownBlock = some g ∨ g = ((w.alloc o).drew).heap.size) :
    ∃ s', LayG (w1.setCell ⟨s.g, 1, none⟩ (.slice (some ⟨g, 0, none⟩) (r2.length + 1) cap)) s' r1 (e :: r2) out ∧ Step s s' w (w1.setCell ⟨s.g, 1, none⟩ (.slice (some ⟨g, 0, none⟩) (r2.length + 1) cap)) := by
  have hz : ((w.alloc o).drew).heap.size = w.heap.size + 1 := by
    show (w.alloc o).heap.size = _
    simp
  have hold : ∀ i, i < w.heap.size → ((w.alloc o).drew).heap[i]? = w.heap[i]? := fun i hi => Below.heap_alloc _ _ _ hi
  have hblk : ∀ i, i < w.heap.size → s.vr.ownBlock ≠ some i → w1.heap[i]? = w.heap[i]? := fun i hi hn => (hgr.block i (by omega) (fun e => hn e.symm)).trans (hold i hi)
  have hgo : s.vr.ownBlock ≠ some s.g := fun e => by have := (h.rc.lt _ e).1; omega
  refine ⟨⟨s.g, s.ve, .slice (some ⟨g, 0, none⟩) (r2.length + 1) cap, s.vo⟩, ?_, ?_⟩
  · exact ⟨(obj_set ((hblk _ h.g_lt hgo).trans h.blk) _).2.1, own_set (own_same h.en fun b hb => hblk b (h.en.lt b hb).2 (ne_of (own_ne h.en h.rc (by decide)) hb)) (Nat.lt_succ_self _) _ _, own_set hown (Nat.lt_succ_self _) _ _, own_set (own_same h.ou fun b hb => hblk b (h.ou.lt b hb).2 (ne_of (own_ne h.ou h.rc (by decide)) hb)) (Nat.lt_succ_self _) _ _⟩
  · refine ⟨rfl, hgr.os, hgr.tape, hgr.output, by rw [size_set]; have := hgr.size; omega, fun i hi hn => ⟨?_, ?_⟩⟩
    · rw [heap_set_other _ _ _ _ _ (fun e => hn (.inl e))]
      exact hblk i hi (fun e => hn (.inr (.inr (.inl e))))
    · rintro (e | e | e | e)
      · exact hn (.inl e)
      · exact hn (.inr (.inl e))
      · injection e with e
        rcases hat with hx | hx
        · exact hn (.inr (.inr (.inl (hx.trans (congrArg some e)))))
        · simp at e; omega
      · exact hn (.inr (.inr (.inr e)))

/-- While a push runs: the entry lies in block A, what can be reached in block B. -/
structure PuAt (w W : World) (A B : Nat) (e : En) (b1 b2 b3 : Int) : Prop where
  ea : EnAt W A 0 e
  r0 : W.cell? ⟨B, 0, none⟩ = some (.int .i64 b1)
  r1 : W.cell? ⟨B, 1, none⟩ = some (.int .i64 b2)
  r2 : W.cell? ⟨B, 2, none⟩ = some (.int .i64 b3)
  fz : ∀ i, W.frozen? ⟨B, i, none⟩ = false
  hA : w.heap.size ≤ A
  hB : w.heap.size ≤ B
  al : A < W.heap.size
  bl : B < W.heap.size
  ab : A ≠ B
  be : Below w.heap.size w W
theorem PuAt.below {w W W' : World} {A B : Nat} {e : En} {b1 b2 b3 : Int} (h : PuAt w W A B e b1 b2 b3) (hb : Below W.heap.size W W') : PuAt w W' A B e b1 b2 b3 :=
  ⟨h.ea.below hb h.al, (hb.cell (p := ⟨B, 0, none⟩) h.bl).trans h.r0, (hb.cell (p := ⟨B, 1, none⟩) h.bl).trans h.r1, (hb.cell (p := ⟨B, 2, none⟩) h.bl).trans h.r2, fun i => (hb.frozen (p := ⟨B, i, none⟩) h.bl).trans (h.fz i), h.hA, h.hB, Nat.lt_of_lt_of_le h.al hb.size, Nat.lt_of_lt_of_le h.bl hb.size, h.ab, blwS h.be hb h.be.size⟩
theorem PuAt.drew {w W : World} {A B : Nat} {e : En} {b1 b2 b3 : Int} (h : PuAt w W A B e b1 b2 b3) : PuAt w W.drew A B e b1 b2 b3 := h.below (Below.refl _ _).drew
theorem PuAt.set {w W : World} {A B : Nat} {e : En} {b1 b2 b3 : Int} (h : PuAt w W A B e b1 b2 b3) (n : Int) :
    PuAt w (W.setCell ⟨B, 0, none⟩ (.int .i64 n)) A B e n b2 b3 ∧ PuAt w (W.setCell ⟨B, 1, none⟩ (.int .i64 n)) A B e b1 n b3 ∧ PuAt w (W.setCell ⟨B, 2, none⟩ (.int .i64 n)) A B e b1 b2 n := by
  have hAB := h.ab
  have hs : ∀ i u, (W.setCell ⟨B, i, none⟩ u).heap.size = W.heap.size := fun i u => size_set W B i u
  have hea : ∀ i u, EnAt (W.setCell ⟨B, i, none⟩ u) A 0 e := fun i u => h.ea.same (heap_set_other W B i A u hAB)
  have hfz : ∀ i u j, (W.setCell ⟨B, i, none⟩ u).frozen? ⟨B, j, none⟩ = false := fun i u j => by simp [go_sem, h.fz]
  have hbe : ∀ i u, Below w.heap.size w (W.setCell ⟨B, i, none⟩ u) := fun i u => h.be.setCell (p := ⟨B, i, none⟩) h.hB u
  have h0 := h.r0
  have h1 := h.r1
  have h2 := h.r2
  refine ⟨⟨hea _ _, ?_, ?_, ?_, hfz _ _, h.hA, h.hB, by rw [hs]; exact h.al, by rw [hs]; exact h.bl, hAB, hbe _ _⟩, ⟨hea _ _, ?_, ?_, ?_, hfz _ _, h.hA, h.hB, by rw [hs]; exact h.al, by rw [hs]; exact h.bl, hAB, hbe _ _⟩, ⟨hea _ _, ?_, ?_, ?_, hfz _ _, h.hA, h.hB, by rw [hs]; exact h.al, by rw [hs]; exact h.bl, hAB, hbe _ _⟩⟩ <;> simp [go_sem, h0, h1, h2]

theorem en_news (W : World) (e : En) : ∀ j u, (enCells e)[j]? = some u → ((W.drew).alloc (boxE e)).cell? ((⟨W.heap.size, 0, none⟩ : Addr).add j) = some u :=
  World.news_of_block (t := 88) (fr := (0, 0)) (heap_alloc_new W.drew (boxE e))
def boxR (b1 b2 b3 : Int) : Obj := .cells #[.int .i64 b1, .int .i64 b2, .int .i64 b3] 105
theorem rc_news (W : World) (rs : List En) : ∀ j u, (rcCells rs)[j]? = some u → ((W.drew).alloc (boxR (rcB rs) (rcF rs) (rcO rs))).cell? ((⟨W.heap.size, 0, none⟩ : Addr).add j) = some u :=
  World.news_of_block (t := 105) (fr := (0, 0)) (heap_alloc_new W.drew (boxR (rcB rs) (rcF rs) (rcO rs)))

theorem frozen_al1 (w : World) (o1 : Obj) {g i : Nat} (hg : g < w.heap.size) (h : w.frozen? ⟨g, i, none⟩ = false) : ((w.alloc o1).drew).frozen? ⟨g, i, none⟩ = false := by
  show (w.alloc o1).frozen? ⟨g, i, none⟩ = false
  rw [World.frozen?_alloc_past _ _ _ hg]
  exact h
theorem cell_al1 (w : World) (o1 : Obj) {g i : Nat} {v : Value} (hg : g < w.heap.size) (h : w.cell? ⟨g, i, none⟩ = some v) : ((w.alloc o1).drew).cell? ⟨g, i, none⟩ = some v := by
  show (w.alloc o1).cell? ⟨g, i, none⟩ = some v
  rw [World.cell?_alloc_past _ _ _ hg]
  exact h

theorem two_cells {w w1 : World} {o1 : Obj} (hb : Below (((w.alloc o1).alloc (boxR 0 0 0)).drew).heap.size (((w.alloc o1).alloc (boxR 0 0 0)).drew) w1) : w.heap.size + 1 < w1.heap.size ∧ w1.cell? ⟨w.heap.size + 1, 0, none⟩ = some (.int .i64 0) ∧ w1.cell? ⟨w.heap.size + 1, 1, none⟩ = some (.int .i64 0) ∧ w1.cell? ⟨w.heap.size + 1, 2, none⟩ = some (.int .i64 0) ∧ ∀ j, w1.frozen? ⟨w.heap.size + 1, j, none⟩ = false := by
  have hs : (((w.alloc o1).alloc (boxR 0 0 0)).drew).heap.size = w.heap.size + 2 := by
    show ((w.alloc o1).alloc (boxR 0 0 0)).heap.size = _
    simp
  have h := heap_alloc_new (w.alloc o1) (boxR 0 0 0)
  have e : (w.alloc o1).heap.size = w.heap.size + 1 := by simp
  rw [e] at h
  have h' : w1.heap[w.heap.size + 1]? = some (boxR 0 0 0) := (hb.block _ (by omega)).trans h
  refine ⟨by have := hb.size; omega, ?_, ?_, ?_, fun j => ?_⟩ <;> simp [World.cell?, World.frozen?, h', boxR]
theorem two_cells' {w w1 : World} {o1 : Obj} (hb : Below (((w.alloc o1).drew).alloc (boxR 0 0 0)).heap.size (((w.alloc o1).drew).alloc (boxR 0 0 0)) w1) : w.heap.size + 1 < w1.heap.size ∧ w1.cell? ⟨w.heap.size + 1, 0, none⟩ = some (.int .i64 0) ∧ w1.cell? ⟨w.heap.size + 1, 1, none⟩ = some (.int .i64 0) ∧ w1.cell? ⟨w.heap.size + 1, 2, none⟩ = some (.int .i64 0) ∧ ∀ j, w1.frozen? ⟨w.heap.size + 1, j, none⟩ = false :=
  two_cells (o1 := o1) ⟨hb.os, hb.tape, hb.output, hb.size, hb.block⟩

theorem LayAt.set_far {w : World} {s : St} {rs : List En} {out : List Rt} (h : LayAt w s rs out) {B : Nat} (hB : ¬ s.own B) (i : Nat) (u : Value) : LayAt (w.setCell ⟨B, i, none⟩ u) s rs out :=
  h.kept fun k hk => heap_set_other w B i k u (fun e => hB (e ▸ hk))
theorem pu_new1 {w w1 : World} {s : St} {rs : List En} {out : List Rt} {e : En} {b1 b2 b3 : Int} (h : LayAt w s rs out) (hb : Below ((w.alloc (boxE e)).drew).heap.size ((w.alloc (boxE e)).drew) w1) :
    LayAt (w1.alloc (boxR b1 b2 b3)) s rs out ∧ PuAt w (w1.alloc (boxR b1 b2 b3)) w.heap.size w1.heap.size e b1 b2 b3 := by
  have hz : ((w.alloc (boxE e)).drew).heap.size = w.heap.size + 1 := by
    show (w.alloc (boxE e)).heap.size = _
    simp
  have hs := hb.size
  have b0 : Below w.heap.size w w1 := blw2 (below_alloc _ _).drew hb
  have hn := heap_alloc_new w1 (boxR b1 b2 b3)
  refine ⟨h.below (blw2 b0 (below_alloc _ _)), ?_, ?_, ?_, ?_, fun i => ?_, Nat.le_refl _, b0.size, by simp; omega, by simp, by omega, blw2 b0 (below_alloc _ _)⟩
  · exact ((enAt_new w e).same (show ((w.alloc (boxE e)).drew).heap[w.heap.size]? = _ from rfl)).below hb (by omega) |>.below (below_alloc _ _) (by omega)
  · exact (box3_new w1 _ _ _ _).1
  · exact (box3_new w1 _ _ _ _).2.1
  · exact (box3_new w1 _ _ _ _).2.2
  · simp only [World.frozen?]
    rw [hn]
    simp [boxR]
theorem pu_new2 {w w1 : World} {s : St} {rs : List En} {out : List Rt} {e : En} {b1 b2 b3 : Int} (h : LayAt w s rs out) (hb : Below (((w.alloc (boxE e)).alloc (boxR 0 0 0)).drew).heap.size (((w.alloc (boxE e)).alloc (boxR 0 0 0)).drew) w1) :
    LayAt (((w1.setCell ⟨w.heap.size + 1, 0, none⟩ (.int .i64 b1)).setCell ⟨w.heap.size + 1, 1, none⟩ (.int .i64 b2)).setCell ⟨w.heap.size + 1, 2, none⟩ (.int .i64 b3)) s rs out ∧
    PuAt w (((w1.setCell ⟨w.heap.size + 1, 0, none⟩ (.int .i64 b1)).setCell ⟨w.heap.size + 1, 1, none⟩ (.int .i64 b2)).setCell ⟨w.heap.size + 1, 2, none⟩ (.int .i64 b3)) w.heap.size (w.heap.size + 1) e b1 b2 b3 := by
  have hz : (((w.alloc (boxE e)).alloc (boxR 0 0 0)).drew).heap.size = w.heap.size + 2 := by
    show ((w.alloc (boxE e)).alloc (boxR 0 0 0)).heap.size = _
    simp
  have hs := hb.size
  have b0 : Below w.heap.size w w1 := blw2 (blw2 (below_alloc _ _) (below_alloc _ _)).drew hb
  obtain ⟨hz1, k0, k1, k2, hf⟩ := two_cells hb
  have hno : ¬ s.own (w.heap.size + 1) := h.fresh (by omega)
  refine ⟨(((h.below b0).set_far hno _ _).set_far hno _ _).set_far hno _ _, ?_⟩
  have p0 : PuAt w w1 w.heap.size (w.heap.size + 1) e 0 0 0 := by
    refine ⟨?_, k0, k1, k2, hf, Nat.le_refl _, by omega, by omega, by omega, by omega, b0⟩
    exact (((enAt_new w e).below (below_alloc _ (boxR 0 0 0)) (by simp)).same (show (((w.alloc (boxE e)).alloc (boxR 0 0 0)).drew).heap[w.heap.size]? = _ from rfl)).below hb (by omega)
  exact ((((p0.set b1).1).set b2).2.1.set b3).2.2
theorem PuAt.no_own {w W : World} {s : St} {rs : List En} {out : List Rt} {A B : Nat} {e : En} {b1 b2 b3 : Int} (hp : PuAt w W A B e b1 b2 b3) (h : LayAt w s rs out) : ¬ s.own A ∧ ¬ s.own B := ⟨h.fresh hp.hA, h.fresh hp.hB⟩
theorem PuAt.cells {w W : World} {A B : Nat} {e : En} {b1 b2 b3 : Int} (h : PuAt w W A B e b1 b2 b3) : W.cell? ⟨A, 0, none⟩ = some (.int .i64 (enS e)) ∧ W.cell? ⟨A, 1, none⟩ = some (.int .i64 (enC e)) ∧ W.cell? ⟨A, 2, none⟩ = some (.string (bt (enK e))) := h.ea
end Go.Proofs.Ytbjbmehkcfpahaa
