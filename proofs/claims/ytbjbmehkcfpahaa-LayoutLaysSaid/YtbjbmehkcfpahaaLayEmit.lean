/- Contracts of the stack's cut and of the object's emit and insert. No condition but bounds on what is open and laid. -/
import Derived.Test.YtbjbmehkcfpahaaLayReach
import Derived.Deep.RegionLaw
namespace Go.Proofs.Ytbjbmehkcfpahaa
open Go.RowKit Lx
attribute [local go_sem] bt_size bt_get bt_list bt_toList bt_drop bt_take
attribute [local go_sem ↓] Go.wp_at_zero Go.wp_at_succ

theorem own_cut {w : World} {base : Nat} {e : TypeId} {size q n cap k : Nat} {xs : List Value} (h : w.ownsRow base e size (.slice (some ⟨q, 0, none⟩) n cap) n xs) (hk : k ≤ n) :
    w.ownsRow base e size (.slice (some ⟨q, 0, none⟩) k cap) k (xs.take (k * size)) := by
  have hks : k * size ≤ n * size := Nat.mul_le_mul_right _ hk
  refine ⟨by rw [List.length_take, h.1]; omega, .inr ?_⟩
  rcases h.2 with ⟨hv, _⟩ | ⟨g, cap', cur, hv, hb, hg, hn, hm, hs, ht⟩
  · cases hv
  · injection hv with h1 h2 h3
    injection h1 with h1
    injection h1 with h1 _ _
    subst h1 h3
    refine ⟨q, cap, cur, rfl, hb, hg, by omega, hm, hs, ?_⟩
    rw [← ht, List.take_take, Nat.min_eq_left hks]

theorem heap_set_other (w : World) (g i k : Nat) (u : Value) (h : k ≠ g) : (w.setCell ⟨g, i, none⟩ u).heap[k]? = w.heap[k]? := by
  simp only [World.setCell, Array.getElem?_modify]
  rw [if_neg (fun e => h e.symm)]
theorem size_set (w : World) (g i : Nat) (u : Value) : (w.setCell ⟨g, i, none⟩ u).heap.size = w.heap.size := by simp [World.setCell]
theorem obj_set {w : World} {g : Nat} {a b c : Value} {T : TypeId} (h : w.heap[g]? = some (.cells #[a, b, c] T (0, 0))) (u : Value) :
    (w.setCell ⟨g, 0, none⟩ u).heap[g]? = some (.cells #[u, b, c] T (0, 0)) ∧ (w.setCell ⟨g, 1, none⟩ u).heap[g]? = some (.cells #[a, u, c] T (0, 0)) ∧ (w.setCell ⟨g, 2, none⟩ u).heap[g]? = some (.cells #[a, b, u] T (0, 0)) := by
  refine ⟨?_, ?_, ?_⟩ <;> simp [World.setCell, Array.getElem?_modify, h]

theorem own_set {w : World} {base : Nat} {e : TypeId} {size : Nat} {v : Value} {n : Nat} {xs : List Value} (h : w.ownsRow base e size v n xs) {g : Nat} (hg : g < base) (i : Nat) (u : Value) : (w.setCell ⟨g, i, none⟩ u).ownsRow base e size v n xs :=
  own_same h fun b hb => heap_set_other w g i b u (fun e => by have := (h.lt b hb).1; omega)

theorem LayAt.put0 {w : World} {s : St} {rs rs' : List En} {out : List Rt} (h : LayAt w s rs out) (v : Value) (hv : w.ownsRow (s.g + 1) 88 3 v rs'.length (ensCells rs')) (hr : w.ownsRow (s.g + 1) 105 3 s.vr rs'.length (rcsCells rs')) : LayAt (w.setCell ⟨s.g, 0, none⟩ v) ⟨s.g, v, s.vr, s.vo⟩ rs' out :=
  ⟨(obj_set h.blk v).1, own_set hv (Nat.lt_succ_self _) _ _, own_set hr (Nat.lt_succ_self _) _ _, own_set h.ou (Nat.lt_succ_self _) _ _⟩
theorem put2_at {w : World} {s : St} {rs : List En} {out : List Rt} (hb : w.heap[s.g]? = some (.cells #[s.ve, s.vr, s.vo] 63 (0, 0))) (he : w.ownsRow (s.g + 1) 88 3 s.ve rs.length (ensCells rs)) (hr : w.ownsRow (s.g + 1) 105 3 s.vr rs.length (rcsCells rs)) (v : Value) (hv : w.ownsRow (s.g + 1) 33 5 v out.length (rtsCells out)) : LayAt (w.setCell ⟨s.g, 2, none⟩ v) ⟨s.g, s.ve, s.vr, v⟩ rs out :=
  ⟨(obj_set hb v).2.2, own_set he (Nat.lt_succ_self _) _ _, own_set hr (Nat.lt_succ_self _) _ _, own_set hv (Nat.lt_succ_self _) _ _⟩
/-- Both of the stack's slices. -/
theorem LayAt.put01 {w : World} {s : St} {rs rs' : List En} {out : List Rt} (h : LayAt w s rs out) (v u : Value) (hv : w.ownsRow (s.g + 1) 88 3 v rs'.length (ensCells rs')) (hu : w.ownsRow (s.g + 1) 105 3 u rs'.length (rcsCells rs')) : LayAt ((w.setCell ⟨s.g, 0, none⟩ v).setCell ⟨s.g, 1, none⟩ u) ⟨s.g, v, u, s.vo⟩ rs' out :=
  ⟨(obj_set (obj_set h.blk v).1 u).2.1, own_set (own_set hv (Nat.lt_succ_self _) _ _) (Nat.lt_succ_self _) _ _, own_set (own_set hu (Nat.lt_succ_self _) _ _) (Nat.lt_succ_self _) _ _, own_set (own_set h.ou (Nat.lt_succ_self _) _ _) (Nat.lt_succ_self _) _ _⟩

/-- A store into the object, whose slices stay in blocks that are its own, or are new. -/
theorem Step.set {s s' : St} {w w' : World} (h : Step s s' w w') (i : Nat) (u : Value) (t : St) (hg : t.g = s'.g) (ho : ∀ k, k < w.heap.size → ¬ s'.own k → ¬ t.own k) : Step s t w (w'.setCell ⟨s'.g, i, none⟩ u) :=
  ⟨hg.trans h.g, h.os, h.tape, h.output, by rw [size_set]; exact h.size, fun k hk hn => by
    have a := h.block k hk hn
    exact ⟨(heap_set_other w' s'.g i k u (fun e => a.2 (.inl e))).trans a.1, ho k hk a.2⟩⟩

set_option maxHeartbeats 1000000 in
set_option maxRecDepth 100000 in
theorem cut_any (w : World) (s : St) (ab rs : List En) (out : List Rt) (h : LayAt w s (ab ++ rs) out) (h0 : 0 < ab.length + rs.length) (hn : ab.length + rs.length ≤ 10000000) :
    Calls Try.prog 94 #[.pointer (some ⟨s.g, 0, none⟩), .int .i64 (rs.length : Int)] w fun e w' => LPost s w rs out (.returned (.tuple #[])) e w' := by
  have HL := Lib.hid h
  obtain ⟨c0, c1, c2⟩ := h.cells
  have f0 := h.frozen 0
  have f1 := h.frozen 1
  have he := h.en
  have hr := h.rc
  rw [List.length_append] at he hr
  obtain ⟨q, cap, hv, hc, hm⟩ : ∃ q cap, s.ve = .slice (some ⟨q, 0, none⟩) (ab.length + rs.length) cap ∧ ab.length + rs.length ≤ cap ∧ cap ≤ maxLen := by
    rcases own_forms he with ⟨_, hx⟩ | hx
    · omega
    · exact hx
  obtain ⟨q2, cap2, hv2, hc2, hm2⟩ : ∃ q cap, s.vr = .slice (some ⟨q, 0, none⟩) (ab.length + rs.length) cap ∧ ab.length + rs.length ≤ cap ∧ cap ≤ maxLen := by
    rcases own_forms hr with ⟨_, hx⟩ | hx
    · omega
    · exact hx
  have hE := he
  have hR := hr
  rw [hv] at c0 hE
  rw [hv2] at c1 hR
  have HE := Lib.hid (own_cut hE (show rs.length ≤ ab.length + rs.length by omega))
  have HR := Lib.hid (own_cut hR (show rs.length ≤ ab.length + rs.length by omega))
  have HV := Lib.hid hv
  have HV2 := Lib.hid hv2
  clear h he hr hE hR hv hv2 hm hm2
  go_enter Try.func94, Try.ntmps94
  go_wp2
  go_end0
  refine ⟨rfl, ⟨s.g, .slice (some ⟨q, 0, none⟩) rs.length cap, .slice (some ⟨q2, 0, none⟩) rs.length cap2, s.vo⟩, ?_, ?_⟩
  · exact HL.out.put01 _ _ (by have := HE.out; rw [ens_take] at this; exact this) (by have := HR.out; rw [rcs_take] at this; exact this)
  · refine ((Step.refl s w).set 0 _ s rfl (fun _ _ h => h)).set 1 _ _ rfl (fun k _ hk ho => hk ?_)
    rcases ho with ho | ho | ho | ho
    · exact .inl ho
    · exact .inr (.inl (by rw [HV.out]; exact ho))
    · exact .inr (.inr (.inl (by rw [HV2.out]; exact ho)))
    · exact .inr (.inr (.inr ho))

/-- Rows that an append to another row leaves. -/
theorem own_grown {w w1 : World} {base : Nat} {e : TypeId} {size : Nat} {v : Value} {n : Nat} {xs : List Value} {row : Option Nat} (h : w.ownsRow base e size v n xs) (hg : w.grownBy w1 row) (hne : v.ownBlock = none ∨ v.ownBlock ≠ row) : w1.ownsRow base e size v n xs := h.kept hg hne

theorem rt_news {w : World} {B : Nat} {t : Rt} {T : TypeId} {fr : Nat × Nat} (hb : w.heap[B]? = some (.cells #[.int .i64 t.kind, .string (bt t.text), .int .i64 t.n, .int .i64 t.line, .int .i64 t.col] T fr)) : ∀ j u, (rtCells t)[j]? = some u → w.cell? ((⟨B, 0, none⟩ : Addr).add j) = some u := World.news_of_block hb

theorem rt_news2 (w : World) (o1 : Obj) (t : Rt) : ∀ j u, (rtCells t)[j]? = some u → (((w.alloc o1).drew).alloc (boxT t)).cell? ((⟨w.heap.size + 1, 0, none⟩ : Addr).add j) = some u := by
  refine rt_news (T := 33) (fr := (0, 0)) ?_
  have := heap_alloc_new ((w.alloc o1).drew) (boxT t)
  have e : ((w.alloc o1).drew).heap.size = w.heap.size + 1 := by show (w.alloc o1).heap.size = _; simp
  rw [e] at this
  exact this

theorem frozen_al2 (w : World) (o1 o2 : Obj) {g i : Nat} (hg : g < w.heap.size) (h : w.frozen? ⟨g, i, none⟩ = false) : (((w.alloc o1).alloc o2).drew).frozen? ⟨g, i, none⟩ = false := by
  show ((w.alloc o1).alloc o2).frozen? ⟨g, i, none⟩ = false
  rw [World.frozen?_alloc_past _ _ _ (by simp; omega), World.frozen?_alloc_past _ _ _ hg]
  exact h
theorem cell_al2 (w : World) (o1 o2 : Obj) {g i : Nat} {v : Value} (hg : g < w.heap.size) (h : w.cell? ⟨g, i, none⟩ = some v) : (((w.alloc o1).alloc o2).drew).cell? ⟨g, i, none⟩ = some v := by
  show ((w.alloc o1).alloc o2).cell? ⟨g, i, none⟩ = some v
  rw [World.cell?_alloc_past _ _ _ (by simp; omega), World.cell?_alloc_past _ _ _ hg]
  exact h

/-- What emit and insert leave: the stack's own slice is the same. -/
def LPostE (s : St) (w : World) (rs : List En) (out : List Rt) (v e : Ending) (w' : World) : Prop := e = v ∧ ∃ s', s'.ve = s.ve ∧ LayAt w' s' rs out ∧ Step s s' w w'
theorem LPostE.toL {s : St} {w : World} {rs : List En} {out : List Rt} {v e : Ending} {w' : World} (h : LPostE s w rs out v e w') : LPost s w rs out v e w' := by
  obtain ⟨a, s', _, b, c⟩ := h
  exact ⟨a, s', b, c⟩

/-- What is left when a token was appended. -/
theorem emit_done {w w1 : World} {s : St} {rs : List En} {out : List Rt} {t : Rt} {o1 o2 : Obj} {g cap : Nat} (h : LayAt w s rs out) (hown : w1.ownsRow (s.g + 1) 33 5 (.slice (some ⟨g, 0, none⟩) (out.length + 1) cap) (out.length + 1) (rtsCells out ++ rtCells t))
    (hgr : (((w.alloc o1).alloc o2).drew).grownBy w1 s.vo.ownBlock) (hat : s.vo.ownBlock = some g ∨ g = (((w.alloc o1).alloc o2).drew).heap.size) :
    ∃ s', s'.ve = s.ve ∧ LayAt (w1.setCell ⟨s.g, 2, none⟩ (.slice (some ⟨g, 0, none⟩) (out.length + 1) cap)) s' rs (out ++ [t]) ∧ Step s s' w (w1.setCell ⟨s.g, 2, none⟩ (.slice (some ⟨g, 0, none⟩) (out.length + 1) cap)) := by
  have hz : (((w.alloc o1).alloc o2).drew).heap.size = w.heap.size + 2 := by
    show ((w.alloc o1).alloc o2).heap.size = _
    simp
  have hold : ∀ i, i < w.heap.size → (((w.alloc o1).alloc o2).drew).heap[i]? = w.heap[i]? := fun i hi => by
    show ((w.alloc o1).alloc o2).heap[i]? = _
    rw [Below.heap_alloc _ _ _ (by simp; omega), Below.heap_alloc _ _ _ hi]
  have hblk : ∀ i, i < w.heap.size → s.vo.ownBlock ≠ some i → w1.heap[i]? = w.heap[i]? := fun i hi hn => (hgr.block i (by omega) (fun e => hn e.symm)).trans (hold i hi)
  have hgo : s.vo.ownBlock ≠ some s.g := fun e => by have := (h.ou.lt _ e).1; omega
  refine ⟨⟨s.g, s.ve, s.vr, .slice (some ⟨g, 0, none⟩) (out.length + 1) cap⟩, rfl, ?_, ?_⟩
  · refine put2_at ((hblk _ h.g_lt hgo).trans h.blk) (own_same h.en fun b hb => hblk b (h.en.lt b hb).2 ?_) (own_same h.rc fun b hb => hblk b (h.rc.lt b hb).2 ?_) _ (by rw [rtsCells_snoc, List.length_append]; exact hown)
    · rcases own_ne h.en h.ou (by decide) with hx | hx
      · rw [hx] at hb; cases hb
      · rw [← hb]; exact fun e => hx e.symm
    · rcases own_ne h.rc h.ou (by decide) with hx | hx
      · rw [hx] at hb; cases hb
      · rw [← hb]; exact fun e => hx e.symm
  · refine ⟨rfl, hgr.os, hgr.tape, hgr.output, by rw [size_set]; have := hgr.size; omega, fun i hi hn => ⟨?_, ?_⟩⟩
    · rw [heap_set_other _ _ _ _ _ (fun e => hn (.inl e))]
      exact hblk i hi (fun e => hn (.inr (.inr (.inr e))))
    · rintro (e | e | e | e)
      · exact hn (.inl e)
      · exact hn (.inr (.inl e))
      · exact hn (.inr (.inr (.inl e)))
      · injection e with e
        rcases hat with hx | hx
        · exact hn (.inr (.inr (.inr (hx.trans (congrArg some e)))))
        · simp at e; omega

set_option maxHeartbeats 2000000 in
set_option maxRecDepth 100000 in
theorem emit_e (w : World) (s : St) (rs : List En) (out : List Rt) (t : Rt) (h : LayAt w s rs out) (hn : out.length ≤ 10000000) :
    Calls Try.prog 58 #[.pointer (some ⟨s.g, 0, none⟩), tokV t] w fun e w' => LPostE s w rs (out ++ [t]) (.returned (.tuple #[])) e w' := by
  obtain ⟨i0, hi, hz0, hz1, hz2⟩ := info_parts info_rt
  have HL := Lib.hid h
  have hg := h.g_lt
  obtain ⟨c0, c1, c2⟩ := h.cells
  have f2 := h.frozen 2
  have hgo : some s.g ≠ s.vo.ownBlock := fun e => by have := (h.ou.lt _ e.symm).1; omega
  have hwo : some w.heap.size ≠ s.vo.ownBlock := fun e => by have := (h.ou.lt _ e.symm).2; omega
  have HGO := Lib.hid hgo
  have HWO := Lib.hid hwo
  have hbase : s.g + 1 ≤ w.heap.size + 2 := by omega
  clear h c0 c1 hgo hwo
  unfold tokV
  go_enter Try.func58, Try.ntmps58
  go_wp2
  go_region_law ((refine step_append_lies _ (by rfl) _ _ _ (by rfl) (s.g + 1) 33 i0 _ 5 48 under_rts hi hz0 hz1 hz2 rfl (by omega) s.vo out.length (rtsCells out) (by rfl) (by exact ((HL.out.ou.alloc _).drew).alloc _) ⟨w.heap.size + 1, 0, none⟩ 1 1 (rtCells t) (by rfl) (by rfl) (by exact rt_news2 w _ t) (rt_one t) (by omega) (by simp [maxLen]; omega) (by omega) (by simp; omega) _ rfl ?_; intro gg cap w1 hown hgrow hat hlt; have F2 : w1.frozen? ⟨s.g, 2, none⟩ = false := (hgrow.frozen_far ⟨s.g, 2, none⟩ (by simp; omega) HGO.out).trans (frozen_al2 w _ _ hg f2); have C2 : w1.cell? ⟨s.g, 2, none⟩ = some s.vo := (hgrow.cell_far ⟨s.g, 2, none⟩ (by simp; omega) HGO.out).trans (cell_al2 w _ _ hg c2); have HOwn := Lib.hid hown; have HGrow := Lib.hid hgrow; have HAt := Lib.hid hat; clear hown hgrow hat))
  all_goals
    go_wp2
    go_end0
    exact ⟨rfl, emit_done HL.out HOwn.out HGrow.out HAt.out⟩

set_option maxHeartbeats 2000000 in
set_option maxRecDepth 100000 in
theorem insert_e (w : World) (s : St) (rs : List En) (out : List Rt) (x : List UInt8) (t : Rt) (h : LayAt w s rs out) (hn : out.length ≤ 10000000) :
    Calls Try.prog 91 #[.pointer (some ⟨s.g, 0, none⟩), .string (bt x), tokV t] w fun e w' => LPostE s w rs (out ++ [insT x t]) (.returned (.tuple #[])) e w' := by
  have HL := Lib.hid h
  have hg := h.g_lt
  clear h
  unfold tokV
  go_enter Try.func91, Try.ntmps91
  go_wp2_with fail
  refine (emit_e (w.alloc (boxT t)) s rs out (insT x t) (HL.out.below (below_alloc _ _)) hn).mono ?_
  rintro e w1 ⟨rfl, s1, hv1, hl1, hs1⟩
  have HV1 := Lib.hid hv1
  clear hv1
  have HL1 := Lib.hid hl1
  have HS1 := Lib.hid hs1
  clear hl1 hs1
  go_wp2
  go_end0
  exact ⟨rfl, s1, HV1.out, HL1.out, (Step.of_below s (below_alloc w (boxT t))).trans HS1.out⟩

theorem emit_any (w : World) (s : St) (rs : List En) (out : List Rt) (t : Rt) (h : LayAt w s rs out) (hn : out.length ≤ 10000000) :
    Calls Try.prog 58 #[.pointer (some ⟨s.g, 0, none⟩), tokV t] w fun e w' => LPost s w rs (out ++ [t]) (.returned (.tuple #[])) e w' :=
  (emit_e w s rs out t h hn).mono fun _ _ h => h.toL
theorem insert_any (w : World) (s : St) (rs : List En) (out : List Rt) (x : List UInt8) (t : Rt) (h : LayAt w s rs out) (hn : out.length ≤ 10000000) :
    Calls Try.prog 91 #[.pointer (some ⟨s.g, 0, none⟩), .string (bt x), tokV t] w fun e w' => LPost s w rs (out ++ [insT x t]) (.returned (.tuple #[])) e w' :=
  (insert_e w s rs out x t h hn).mono fun _ _ h => h.toL
end Go.Proofs.Ytbjbmehkcfpahaa
