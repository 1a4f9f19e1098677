/- The reference's layout: the contract of its Lay: for tokens in which words and signs are told apart it answers what the plain rule says. No condition but that and a bound on their number. -/
import Derived.Test.YtbjbmehkcfpahaaRfTok
import Derived.Test.YtbjbmehkcfpahaaLayLay
import Derived.Test.YtbjbmehkcfpahaaLayPure2
import Derived.Test.YtbjbmehkcfpahaaLayAwake
import Derived.Deep.CutBlock
import Derived.BigFrame
import Derived.StillTailTactics
namespace Go.Proofs.Ytbjbmehkcfpahaa
open Go.RowKit Lx
attribute [local go_sem] bt_size bt_get bt_list bt_toList bt_drop bt_take
attribute [local go_sem ↓] Go.wp_at_zero Go.wp_at_succ

/-- A token's box, written anew. -/
def setB (w : World) (E : Nat) (u : Rt) : World := ((((w.setCell ⟨E, 0, none⟩ (.int .i64 u.kind)).setCell ⟨E, 1, none⟩ (.string (bt u.text))).setCell ⟨E, 2, none⟩ (.int .i64 u.n)).setCell ⟨E, 3, none⟩ (.int .i64 u.line)).setCell ⟨E, 4, none⟩ (.int .i64 u.col)
theorem setB_at {w : World} {E : Nat} {t u : Rt} (h : w.heap[E]? = some (boxT t)) : (setB w E u).heap[E]? = some (boxT u) := by
  simp [setB, World.setCell, Array.getElem?_modify, h, boxT]
theorem setB_other {w : World} {E i : Nat} {u : Rt} (h : i ≠ E) : (setB w E u).heap[i]? = w.heap[i]? := by
  unfold setB
  rw [heap_set_other _ _ _ _ _ h, heap_set_other _ _ _ _ _ h, heap_set_other _ _ _ _ _ h, heap_set_other _ _ _ _ _ h, heap_set_other _ _ _ _ _ h]
theorem setB_size (w : World) (E : Nat) (u : Rt) : (setB w E u).heap.size = w.heap.size := by
  unfold setB
  rw [size_set, size_set, size_set, size_set, size_set]
theorem setB_below {a w : World} {E B : Nat} {u : Rt} (h : Below B a w) (hE : B ≤ E) : Below B a (setB w E u) :=
  ((((h.setCell (p := ⟨E, 0, none⟩) hE _).setCell (p := ⟨E, 1, none⟩) hE _).setCell (p := ⟨E, 2, none⟩) hE _).setCell (p := ⟨E, 3, none⟩) hE _).setCell (p := ⟨E, 4, none⟩) hE _
theorem setB_own {w : World} {base : Nat} {e : TypeId} {size : Nat} {v : Value} {n : Nat} {xs : List Value} {E : Nat} {u : Rt} (h : w.ownsRow base e size v n xs) (hE : E < base) : (setB w E u).ownsRow base e size v n xs :=
  own_same h fun b hb => setB_other (fun e => by have := (h.lt b hb).1; omega)
theorem boxAt_ob {w : World} {b : Nat} {t : Rt} (h : w.heap[b]? = some (boxT t)) : BoxAt w b t := by
  refine ⟨?_, ?_, ?_, ?_, ?_⟩ <;> simp [World.cell?, h, boxT]
theorem split_allR (ts : List Rt) (h : ∀ t ∈ ts, t.kind ≠ 9) : splitL none ts = (ts, endT ts.getLast?) := by
  rw [split_all ts none h]
  cases ts.getLast? <;> rfl
theorem split_goodR (ts : List Rt) (h : ∀ t ∈ ts, GoodT t) : ∀ last, (∀ t ∈ (splitL last ts).1, GoodT t) ∧ GoodT (splitL last ts).2 := by
  have he : ∀ o, GoodT (endT o) := fun o => by cases o <;> exact ⟨fun h => absurd (show (9 : Int) = 7 from h) (by decide), fun h => absurd (show (9 : Int) = 8 from h) (by decide)⟩
  induction ts with
  | nil => intro last; exact ⟨by simp [splitL], he last⟩
  | cons x ts ih =>
    intro last
    rw [splitL]
    split
    · exact ⟨by simp, h x (by simp)⟩
    · obtain ⟨a, b⟩ := ih (fun t ht => h t (by simp [ht])) (some x)
      refine ⟨fun t ht => ?_, b⟩
      rcases List.mem_cons.1 ht with rfl | ht
      · exact h t (by simp)
      · exact a t ht

/-- At the head of each round of the first loop. -/
def R1Rel (w : World) (ts : List Rt) (v i : Value) (wr : World) : Prop :=
  ∃ k : Nat, k ≤ ts.length ∧ i = .int .i64 k ∧ (∀ t ∈ ts.take k, t.kind ≠ 9) ∧ wr.heap[w.heap.size + 1]? = some (boxT (endT (ts.take k).getLast?)) ∧
    wr.heap[w.heap.size]? = some zeroDg ∧ wr.ownsRow (w.heap.size + 2) 33 5 v k (rtsCells (ts.take k)) ∧ Below w.heap.size w wr
/-- Behind it. -/
def R1Out (w : World) (is : List Rt) (en : Rt) (v : Value) (wr : World) : Prop :=
  wr.heap[w.heap.size + 1]? = some (boxT en) ∧ wr.heap[w.heap.size]? = some zeroDg ∧ wr.ownsRow (w.heap.size + 2) 33 5 v is.length (rtsCells is) ∧ Below w.heap.size w wr

/-- A still walk, kept shut. -/
structure SW (P : Program) (ops : Array Oper) (w : World) (Q : Act → Prop) (l : List Oper) (a : Act) : Prop where
  out : wpStill P ops w Q l a
theorem sw_want {P : Program} {ops : Array Oper} {w : World} {Q : Act → Prop} {a : Act} {o : Oper} {rest : List Oper} (h : Region.wanted o (yielded ops a.tmps) = true)
    (k : ∀ K : Act → Prop, (∀ a, SW P ops w Q rest a → K a) → o.still P a w K) : SW P ops w Q (o :: rest) a :=
  ⟨wpStill_step fun K hK => by rw [if_pos h]; exact k K fun a ha => hK a ha.out⟩
theorem sw_skip {P : Program} {ops : Array Oper} {w : World} {Q : Act → Prop} {a : Act} {o : Oper} {rest : List Oper} (h : Region.wanted o (yielded ops a.tmps) = false)
    (k : SW P ops w Q rest (a.put o.dst undef)) : SW P ops w Q (o :: rest) a :=
  ⟨wpStill_step fun K hK => by rw [if_neg (by rw [h]; exact Bool.false_ne_true)]; exact hK _ k.out⟩
theorem sw_nil {P : Program} {ops : Array Oper} {w : World} {Q : Act → Prop} {a : Act} (h : Q a) : SW P ops w Q [] a := ⟨wpStill_nil h⟩
theorem sw_tail {P : Program} {id : Nat} {Q : Exit → Act → World → Prop} {a : Act} {w : World} {l : List Oper} (n : Nat) (hm : P.follows .mixedOrders = true) (hB : Region.lexTailB .any l.toArray n = true)
    (h : SW P l.toArray w.drew (fun a' => wpList P l.toArray Q (l.drop n) a' w.drew) (l.take n) a) : (Code.region id l.toArray true).wp P Q a w :=
  wp_region_still_tail n hm hB h.out
def zT : Rt := ⟨0, [], 0, 0, 0⟩
theorem below_step {s s' : St} {w w' : World} {rs : List En} {out : List Rt} (h : RAt w s rs out) (k : Step s s' w w') : Below s.g w w' :=
  ⟨k.os, k.tape, k.output, k.size, fun i hi => (k.block i (by have := h.g_lt; omega) (fun ho => by have := (h.own_lt ho).1; omega)).1⟩
theorem below_und {B : Nat} {w w' : World} (h : Below B w.drew w') : Below B w w' := ⟨h.os, h.tape, h.output, h.size, h.block⟩
theorem rAt_new (w : World) (o : Obj) : RAt ((w.alloc (.cells #[.slice none 0 0, .slice none 0 0, .string ⟨#[]⟩, .int .i64 0, .int .i64 0, .int .i64 0] 71)).alloc o) ⟨w.heap.size, .slice none 0 0, .slice none 0 0, .slice none 0 0⟩ [] [] :=
  ⟨⟨0, 0, 0, (Below.heap_alloc _ _ _ (by simp)).trans (heap_alloc_new w _)⟩, World.ownsRow_nil _ _ _ _, rfl, World.ownsRow_nil _ _ _ _⟩
theorem opn_prev (is : List Rt) (k : Nat) : openedB (prevT is k) = opnB ((prevT is k).getD zT) := by
  cases prevT is k <;> rfl
theorem good_prev (is : List Rt) (h : ∀ t ∈ is, GoodT t) (k : Nat) : GoodT ((prevT is k).getD zT) := by
  have hz : GoodT zT := ⟨fun h => absurd (show (0 : Int) = 7 from h) (by decide), fun h => absurd (show (0 : Int) = 8 from h) (by decide)⟩
  cases hp : prevT is k with
  | none => exact hz
  | some t =>
    cases k with
    | zero => cases hp
    | succ j => exact h t (List.mem_of_getElem? hp)
theorem fin_pos (en : Rt) (op : Bool) (rs : List En) (h : PosB rs) : finL en op rs = match lnL en 0 (rs.length + 1) rs with
    | none => none
    | some (_, o) => some ((if op then [insT [123] en, insT [125] en] else []) ++ o ++ [en]) := by
  have hb : (if op then beginL en 0 rs else (false, rs, [])) = (false, rs, if op then [insT [123] en, insT [125] en] else []) := by
    cases op with
    | false => rfl
    | true =>
      have : ¬ (curC rs).getD 0 < 0 := by
        cases hc : curC rs with
        | none => simp
        | some c => have := pos_cur rs c h hc; simp; omega
      simp only [if_true, beginL, if_neg this]
  unfold finL
  simp only
  rw [hb]
  simp only
  rw [ln_fuel en 0 (rs.length + 2) (rs.length + 1) rs (by omega) (by omega)]
  cases lnL en 0 (rs.length + 1) rs <;> rfl
/-- At the head of each round of the second loop. -/
def R2Rel (ts is : List Rt) (en : Rt) (W : World) (G : Nat) (i : Value) (wr : World) : Prop :=
  ∃ (k : Nat) (s : St) (rs : List En) (out : List Rt), k ≤ is.length ∧ i = .int .i64 k ∧ s.g = G ∧ RAt wr s rs out ∧ wr.heap[G + 1]? = some (boxT ((prevT is k).getD zT)) ∧ ¬ s.own (G + 1) ∧ Below G W wr ∧ PosB rs ∧
    layL ts = layRest (prevT is k) (is.drop k) en rs out ∧ rs.length + out.length ≤ 6 * k

set_option maxHeartbeats 8000000 in
set_option maxRecDepth 100000 in
theorem layRef_any (w : World) (b off cap : Nat) (ts : List Rt) (h : RtAt w b off ts) (hb : b < w.heap.size) (_hc : ts.length ≤ cap) (_hm : cap ≤ maxLen) (hn : ts.length ≤ 1000000) (hgood : ∀ t ∈ ts, GoodT t) :
    Calls Try.prog 14 #[.slice (some ⟨b, off, none⟩) ts.length cap] w fun e w' => LayPost w ts e w' := by
  obtain ⟨i0, hi, hz0, hz1, hz2i⟩ := info_parts info_rt
  have HT := Lib.hid h
  have HGd := Lib.hid (split_goodR ts hgood none)
  clear h hgood
  go_enter Try.func14, Try.ntmps14
  go_upto_block 0 with fail
  go_cut [5, 6] (fun v i wx => ∃ x, i = .int .i64 x ∧ R1Out w (splitL none ts).1 (splitL none ts).2 v wx)
  case first =>
    go_wp2_with fail
    go_loopw [5, 6] (fun v i wr => R1Rel w ts v i wr) (fun _ i _ => ts.length - (intOf i).toNat)
    case atStart =>
      refine ⟨0, Nat.zero_le _, rfl, by simp, ?_, ?_, World.ownsRow_nil _ _ _ _, ((below_alloc w zeroDg).alloc (by simp) _)⟩
      · have := heap_alloc_new (w.alloc zeroDg) (boxT (endT none))
        rw [show (w.alloc zeroDg).heap.size = w.heap.size + 1 from by simp] at this
        exact this
      · exact (Below.heap_alloc _ _ _ (by simp)).trans (heap_alloc_new w zeroDg)
    case round =>
      obtain ⟨k, hk, rfl, hall, hbx, hdg, hown, hbel⟩ := hrel
      have HA := Lib.hid hall
      have HX := Lib.hid hbx
      have HD := Lib.hid hdg
      have HO := Lib.hid hown
      have HB := Lib.hid hbel
      have hze : w.heap.size + 1 < wr.heap.size := (Array.getElem?_eq_some_iff.1 hbx).1
      have hbr : b < wr.heap.size := by omega
      clear hall hbx hdg hown hbel
      by_cases hlt : k < ts.length
      · obtain ⟨a0, a1, a2, a3, a4⟩ := (HT.out.below HB.out hb) k ts[k] (by simp [hlt])
        have HTk := Lib.hid (List.take_succ_eq_append_getElem hlt)
        have HSp := Lib.hid (fun h9 : ts[k].kind = 9 => split_found ts none k hlt HA.out h9)
        revert a0 a1 a2 a3 a4 HTk HSp
        generalize ts[k] = t
        intro a0 a1 a2 a3 a4 HTk HSp
        obtain ⟨e0, e1, e2, e3, e4⟩ := boxAt_ob HX.out
        have ef : ∀ j, wr.frozen? ⟨w.heap.size + 1, j, none⟩ = false := fun j => by have := HX.out; simp [World.frozen?, this, boxT]
        by_cases h9 : t.kind = 9
        · have hs := HSp.out h9
          have HOut := Lib.hid (show R1Out w (splitL none ts).1 (splitL none ts).2 u5 (setB wr (w.heap.size + 1) t) by
            rw [hs]
            refine ⟨setB_at HX.out, (setB_other (by omega)).trans HD.out, ?_, setB_below HB.out (by omega)⟩
            have := setB_own (u := t) HO.out (show w.heap.size + 1 < w.heap.size + 2 by omega)
            rw [show (ts.take k).length = k from by simp; omega]
            exact this)
          have k9 : (t.kind == 9) = true := by rw [h9]; rfl
          clear hs HSp HTk h9
          go_wp2_with fail
          go_meet
          exact ⟨_, rfl, HOut.out⟩
        · have h9' : (t.kind == 9) = false := by simpa using h9
          have HNe := Lib.hid (show some b ≠ u5.ownBlock from fun e => by have := (HO.out.lt b e.symm).1; omega)
          have HNE := Lib.hid (show some (w.heap.size + 1) ≠ u5.ownBlock from fun e => by have := (HO.out.lt _ e.symm).1; omega)
          have HND := Lib.hid (show some w.heap.size ≠ u5.ownBlock from fun e => by have := (HO.out.lt _ e.symm).1; omega)
          have HOp := Lib.hid h9
          clear h9 HSp
          go_wp2_with (at_builtin; refine wpList_append_lies _ rfl _ _ _ rfl (w.heap.size + 2) 33 i0 _ 5 48 under_rts hi hz0 hz1 hz2i rfl (by decide) u5 k (rtsCells (ts.take k)) rfl (HO.out.alloc _) ⟨wr.heap.size, 0, none⟩ 1 1 (rtCells t) rfl rfl (rt_news (by exact heap_alloc_new wr (boxT t))) (rt_one t) (by omega) (by simp [maxLen]; omega) (by omega) (by simp; omega) _ rfl ?_; intro g6 cap6 w6 hown6 hgrow hat hlt6)
          have HO6 := Lib.hid hown6
          have hgb : w6.heap[b]? = wr.heap[b]? := (hgrow.block b (by simp; omega) HNe.out).trans (Below.heap_alloc _ _ _ hbr)
          have hgE : w6.heap[w.heap.size + 1]? = wr.heap[w.heap.size + 1]? := (hgrow.block _ (by simp; omega) HNE.out).trans (Below.heap_alloc _ _ _ hze)
          have hgD : w6.heap[w.heap.size]? = wr.heap[w.heap.size]? := (hgrow.block _ (by simp; omega) HND.out).trans (Below.heap_alloc _ _ _ (by omega))
          have HB6 := Lib.hid (show Below w.heap.size w w6 from (HB.out.alloc HB.out.size _).grown hgrow (by simp; omega) (fun q hq => by have := (HO.out.lt q hq).1; omega))
          have f3 := (World.cell?_of_block (a := ⟨b, off + k * 5 + 3, none⟩) hgb).trans a3
          have f4 := (World.cell?_of_block (a := ⟨b, off + k * 5 + 4, none⟩) hgb).trans a4
          have HX6 := Lib.hid (hgE.trans HX.out)
          have HD6 := Lib.hid (hgD.trans HD.out)
          have hzE : w.heap.size + 1 < w6.heap.size := by have := hgrow.size; simp at this; omega
          have hzb : b < w6.heap.size := by have := hgrow.size; simp at this; omega
          obtain ⟨e0', e1', e2', e3', e4'⟩ := boxAt_ob HX6.out
          have ef' : ∀ j, w6.frozen? ⟨w.heap.size + 1, j, none⟩ = false := fun j => by have := HX6.out; simp [World.frozen?, this, boxT]
          clear hown6 hgrow hat hgb hgE hgD
          go_wp2
          go_region
          all_goals
            go_wp2
            go_roundw
            case rel =>
              refine ⟨k + 1, by omega, by go_num, ?_, ?_, ?_, ?_, ?_⟩
              · intro x hx
                rw [HTk.out] at hx
                rcases List.mem_append.1 hx with hx | hx
                · exact HA.out x hx
                · simp at hx; rw [hx]; exact HOp.out
              · rw [HTk.out, List.getLast?_concat]
                exact setB_at (u := endT (some t)) HX6.out
              · exact (setB_other (u := endT (some t)) (by omega)).trans HD6.out
              · rw [HTk.out, rtsCells_snoc]
                exact (setB_own (u := endT (some t)) HO6.out (by omega)).drew
              · exact (setB_below (u := endT (some t)) HB6.out (by omega)).drew
            case measure => simp [intOf]; omega
      · obtain rfl : k = ts.length := by omega
        have HOut := Lib.hid (show R1Out w (splitL none ts).1 (splitL none ts).2 u5 wr by
          have hx := HX.out
          have ho := HO.out
          have ha := HA.out
          rw [List.take_of_length_le (Nat.le_refl _)] at hx ho ha
          rw [split_allR ts ha]
          exact ⟨hx, HD.out, ho, HB.out⟩)
        go_wp2_with fail
        go_meet
        exact ⟨_, rfl, HOut.out⟩
  case rest =>
    obtain ⟨x6, rfl, hX, hD, hO, hB⟩ := hcut
    have HLy := Lib.hid (layL_rest ts)
    have hil := split_len ts none
    revert hX hO HLy hil HGd
    generalize splitL none ts = sp
    obtain ⟨is, en⟩ := sp
    intro HGd hX hO HLy hil
    dsimp only at hX hO hil HGd HLy
    have HX := Lib.hid hX
    have HD := Lib.hid hD
    have HO := Lib.hid hO
    have HB := Lib.hid hB
    have hzc := hB.size
    have hzE : w.heap.size + 1 < wc.heap.size := (Array.getElem?_eq_some_iff.1 hX).1
    clear hX hD hO hB
    obtain ⟨W, hW⟩ : ∃ W, W = (wc.alloc (.cells #[.slice none 0 0, .slice none 0 0, .string ⟨#[]⟩, .int .i64 0, .int .i64 0, .int .i64 0] 71)).alloc (.cells #[.int .i64 0, .string ⟨#[]⟩, .int .i64 0, .int .i64 0, .int .i64 0] 33) := ⟨_, rfl⟩
    have hzW : W.heap.size = wc.heap.size + 2 := by rw [hW]; simp
    have HRA := Lib.hid (show RAt W ⟨wc.heap.size, .slice none 0 0, .slice none 0 0, .slice none 0 0⟩ [] [] by rw [hW]; exact rAt_new wc _)
    have HAh := Lib.hid (show W.heap[wc.heap.size + 1]? = some (boxT zT) by
      have := heap_alloc_new (wc.alloc (.cells #[.slice none 0 0, .slice none 0 0, .string ⟨#[]⟩, .int .i64 0, .int .i64 0, .int .i64 0] 71)) (boxT zT)
      rw [show (wc.alloc (.cells #[.slice none 0 0, .slice none 0 0, .string ⟨#[]⟩, .int .i64 0, .int .i64 0, .int .i64 0] 71)).heap.size = wc.heap.size + 1 from by simp] at this
      rw [hW]; exact this)
    have HBW := Lib.hid (show Below wc.heap.size wc W by rw [hW]; exact (below_alloc _ _).alloc (by simp) _)
    have HWe := Lib.hid hW.symm
    clear hW
    obtain ⟨G, hG⟩ : ∃ G, G = wc.heap.size := ⟨_, rfl⟩
    go_wp2_with fail
    rw [HWe.out]
    clear HWe
    rw [← hG] at HRA HAh HBW hzW hzE hzc ⊢
    have HG := Lib.hid hG
    clear hG
    go_loopw [9] (fun i wr => R2Rel ts is en W G i wr) (fun i _ => is.length - (intOf i).toNat)
    case atStart => exact ⟨0, _, [], [], Nat.zero_le _, rfl, rfl, HRA.out, HAh.out, (by rintro (e | e | e | e); exact absurd (show G + 1 = G from e) (by omega); cases e; cases e; cases e), Below.refl _ _, (fun c hx => by simp at hx), HLy.out, by simp⟩
    case round =>
      obtain ⟨k, ⟨g1, ve, vr, vo⟩, rs, out, hk, rfl, hg, hl, hA, hno, hbW, hpos, hly, hbd⟩ := hrel
      obtain rfl : G = g1 := hg.symm
      have hgl : G < wr.heap.size := hl.g_lt
      have hzr : W.heap.size ≤ wr.heap.size := hbW.size
      have hBc : Below G wc wr := HBW.out.trans hbW
      have hDg : wr.heap[w.heap.size]? = some zeroDg := (hBc.block _ (by omega)).trans HD.out
      have hEn : wr.heap[w.heap.size + 1]? = some (boxT en) := (hBc.block _ (by omega)).trans HX.out
      have HBr := Lib.hid (show Below w.heap.size w wr from HB.out.trans (hBc.mono (by omega)))
      have HRow := Lib.hid (show wr.ownsRow (w.heap.size + 2) 33 5 u5 is.length (rtsCells is) from own_same HO.out fun q hq => hBc.block q (by have := (HO.out.lt q hq).2; rw [← HG.out] at this; exact this))
      have HL := Lib.hid hl
      have HA := Lib.hid hA
      have HNo := Lib.hid hno
      have HBW2 := Lib.hid hbW
      have HPos := Lib.hid hpos
      have HY := Lib.hid hly
      have HDg := Lib.hid hDg
      have HEn := Lib.hid hEn
      clear hl hA hno hbW hpos hly hBc hDg hEn
      by_cases hlt : k < is.length
      · obtain ⟨gl, capl, hvl, hgl1, hgl2, hcl, hml, htl⟩ := rts_form HRow.out (by omega)
        have hglG : gl < G := by have := (HO.out.lt gl (by rw [hvl]; rfl)).2; rw [← HG.out] at this; exact this
        obtain ⟨a0, a1, a2, a3, a4⟩ := htl k is[k] (by simp [hlt])
        simp only [Nat.zero_add] at a0 a1 a2 a3 a4
        have HDr := Lib.hid (List.drop_eq_getElem_cons hlt)
        have HP := Lib.hid (prev_succ is k hlt)
        have HGt := Lib.hid (show GoodT is[k] from HGd.out.1 _ (List.getElem_mem hlt))
        have HGa := Lib.hid (good_prev is HGd.out.1 k)
        obtain ⟨F, hF⟩ : ∃ F, F = firstB (prevT is k) is[k] := ⟨_, rfl⟩
        have HFk := Lib.hid (show k = 0 → F = true from fun e => by subst e; rw [hF]; rfl)
        have HFs := Lib.hid (show k ≠ 0 → F = decide (((prevT is k).getD zT).line < is[k].line) from fun e => by
          obtain ⟨j, rfl⟩ : ∃ j, k = j + 1 := ⟨k - 1, by omega⟩
          have hj : is[j]? = some is[j] := List.getElem?_eq_getElem (by omega)
          rw [hF, prevT, hj]
          rfl)
        have HF := Lib.hid hF
        have HOp := Lib.hid (opn_prev is k)
        clear hF htl
        obtain ⟨a, ha⟩ : ∃ a, a = (prevT is k).getD zT := ⟨_, rfl⟩
        rw [← ha] at HA HGa HFs HOp
        clear ha
        obtain ⟨t, ht⟩ : ∃ t, t = is[k] := ⟨_, rfl⟩
        rw [← ht] at a0 a1 a2 a3 a4 HDr HP HGt HFs HF
        clear ht
        obtain ⟨b0, b1, b2, b3, b4⟩ := boxAt_ob HA.out
        have hAl : G + 1 < wr.heap.size := (Array.getElem?_eq_some_iff.1 HA.out).1
        have hglr : gl < wr.heap.size := by omega
        have HVl := Lib.hid hvl
        rw [hvl]
        clear hvl
        have HY2 := Lib.hid (show layL ts = match tokL t F (opnB a) rs with
          | none => .error t
          | some (r, o) => layRest (some t) (is.drop (k + 1)) en r (out ++ o) by rw [HY.out, HDr.out, rest_cons, HOp.out, ← HF.out]; cases tokL t F (opnB a) rs <;> rfl)
        clear HY HDr HF HOp
        rcases Nat.eq_zero_or_pos k with h0 | h0
        · have hf := HFk.out h0
          subst h0
          subst hf
          clear HFk HFs
          go_wp2
          refine sw_tail 18 (by kernel_rfl) (by kernel_rfl) ?_
          simp only [List.take_succ_cons, List.take_zero, List.drop_succ_cons, List.drop_zero]
          refine sw_want (by rfl) (fun K hK => ?_)
          replace hK := Lib.hid hK
          go_simp
          refine hK.out _ ?_
          clear hK K
          refine sw_want (by rfl) (fun K hK => ?_)
          replace hK := Lib.hid hK
          go_simp
          refine hK.out _ ?_
          clear hK K
          refine sw_want (by rfl) (fun K hK => ?_)
          replace hK := Lib.hid hK
          go_simp
          refine hK.out _ ?_
          clear hK K
          refine sw_want (by rfl) (fun K hK => ?_)
          replace hK := Lib.hid hK
          go_simp
          refine hK.out _ ?_
          clear hK K
          refine sw_want (by rfl) (fun K hK => ?_)
          replace hK := Lib.hid hK
          go_simp
          refine hK.out _ ?_
          clear hK K
          refine sw_want (by rfl) (fun K hK => ?_)
          replace hK := Lib.hid hK
          go_simp
          refine hK.out _ ?_
          clear hK K
          refine sw_want (by rfl) (fun K hK => ?_)
          replace hK := Lib.hid hK
          go_simp
          refine hK.out _ ?_
          clear hK K
          refine sw_want (by rfl) (fun K hK => ?_)
          replace hK := Lib.hid hK
          go_simp
          refine hK.out _ ?_
          clear hK K
          refine sw_want (by rfl) (fun K hK => ?_)
          replace hK := Lib.hid hK
          go_simp
          refine hK.out _ ?_
          clear hK K
          refine sw_skip (by kernel_rfl) ?_
          refine sw_skip (by kernel_rfl) ?_
          refine sw_skip (by kernel_rfl) ?_
          refine sw_skip (by kernel_rfl) ?_
          refine sw_skip (by kernel_rfl) ?_
          refine sw_skip (by kernel_rfl) ?_
          refine sw_skip (by kernel_rfl) ?_
          refine sw_skip (by kernel_rfl) ?_
          refine sw_want (by rfl) (fun K hK => ?_)
          replace hK := Lib.hid hK
          go_simp
          refine hK.out _ ?_
          clear hK K
          refine sw_nil ?_
          go_wp2_with fail
          refine (tokenR_any wr.drew ⟨G, ve, vr, vo⟩ rs out t a true G rfl HGt.out HGa.out (HL.out.below (Below.refl _ _).drew) (by omega)).mono ?_
          rintro e w2 hp
          unfold RLine at hp
          cases hx : tokL t true (opnB a) rs with
          | none =>
            rw [hx] at hp
            obtain ⟨rfl, s2, av, bv, hbk, hs2⟩ := hp
            have hbk : w2.heap[G]? = _ := hbk
            have hBs : Below G wr w2 := below_und (show Below G wr.drew w2 from below_step (HL.out.below (Below.refl _ _).drew) hs2)
            have hDg2 : w2.heap[w.heap.size]? = some zeroDg := (hBs.block _ (by omega)).trans HDg.out
            have HB2 := Lib.hid (show Below w.heap.size w w2 from HBr.out.trans (hBs.mono (by omega)))
            have hz2 : G < w2.heap.size := (Array.getElem?_eq_some_iff.1 hbk).1
            have hzD : w.heap.size < w2.heap.size := by omega
            have z2 : w2.cell? ⟨G, 2, none⟩ = some (.string ⟨#[]⟩) := by simp [World.cell?, hbk]
            have z3 : w2.cell? ⟨G, 3, none⟩ = some (.int .i64 t.line) := by simp [World.cell?, hbk]
            have z4 : w2.cell? ⟨G, 4, none⟩ = some (.int .i64 t.col) := by simp [World.cell?, hbk]
            have z5 : w2.cell? ⟨G, 5, none⟩ = some (.int .i64 20) := by simp [World.cell?, hbk]
            have y0 : w2.cell? ⟨w.heap.size, 0, none⟩ = some (.string ⟨#[]⟩) := by simp [World.cell?, hDg2, zeroDg]
            have y1 : w2.cell? ⟨w.heap.size, 1, none⟩ = some (.int .i64 0) := by simp [World.cell?, hDg2, zeroDg]
            have y2 : w2.cell? ⟨w.heap.size, 2, none⟩ = some (.int .i64 0) := by simp [World.cell?, hDg2, zeroDg]
            have y3 : w2.cell? ⟨w.heap.size, 3, none⟩ = some (.int .i64 0) := by simp [World.cell?, hDg2, zeroDg]
            have yf : ∀ j, w2.frozen? ⟨w.heap.size, j, none⟩ = false := fun j => by simp [World.frozen?, hDg2, zeroDg]
            have HX2 := Lib.hid hx
            clear hbk hs2 hBs hDg2 hx a0 a1 a2 a3 a4 b0 b1 b2 b3 b4
            go_wp2
            go_region
            all_goals
              go_wp2
              refine bodyPost_ret (v := .tuple #[.slice none 0 0, dgV t.line t.col 20]) (by simp [results, go_sem, dgV, y0, y1, y2, y3]) rfl ?_
              unfold LayPost
              rw [HY2.out, HX2.out]
              refine ⟨rfl, ?_⟩
              exact (bls_set (bls_set (bls_set (bls_set HB2.out (Nat.le_refl _) _ _) (Nat.le_refl _) _ _) (Nat.le_refl _) _ _) (Nat.le_refl _) _ _).drew
          | some y =>
            obtain ⟨r2, o2⟩ := y
            have htl := tok_len hx
            have HPo := Lib.hid (pos_tok t _ _ rs r2 o2 HPos.out hx)
            rw [hx] at hp
            obtain ⟨rfl, s2, hl2, hs2⟩ := hp
            have hBs : Below G wr w2 := below_und (show Below G wr.drew w2 from below_step (HL.out.below (Below.refl _ _).drew) hs2)
            have hAb := hs2.block (G + 1) hAl HNo.out
            have HA2 := Lib.hid (show w2.heap[G + 1]? = some (boxT a) from hAb.1.trans HA.out)
            have HN2 := Lib.hid hAb.2
            have HL2 := Lib.hid hl2
            have HG2 := Lib.hid (show s2.g = G from hs2.g)
            have HBW3 := Lib.hid (HBW2.out.trans hBs)
            have hz2 : G + 1 < w2.heap.size := (Array.getElem?_eq_some_iff.1 HA2.out).1
            have hgl3 : gl < w2.heap.size := by omega
            have d0 := (hBs.cell (p := ⟨gl, 0 * 5, none⟩) hglG).trans a0
            have d1 := (hBs.cell (p := ⟨gl, 0 * 5 + 1, none⟩) hglG).trans a1
            have d2 := (hBs.cell (p := ⟨gl, 0 * 5 + 2, none⟩) hglG).trans a2
            have d3 := (hBs.cell (p := ⟨gl, 0 * 5 + 3, none⟩) hglG).trans a3
            have d4 := (hBs.cell (p := ⟨gl, 0 * 5 + 4, none⟩) hglG).trans a4
            clear b0 b1 b2 b3 b4
            obtain ⟨b0, b1, b2, b3, b4⟩ := boxAt_ob HA2.out
            have bf : ∀ j, w2.frozen? ⟨G + 1, j, none⟩ = false := fun j => by have := HA2.out; simp [World.frozen?, this, boxT]
            have HX2 := Lib.hid hx
            clear hl2 hs2 hBs hAb hx a0 a1 a2 a3 a4
            go_wp2
            go_roundw
            case rel =>
              refine ⟨0 + 1, s2, r2, out ++ o2, by omega, by go_num, HG2.out, ?_, ?_, HN2.out, ?_, HPo.out, ?_, by simp; omega⟩
              · exact HL2.out.kept fun i hi => setB_other (u := t) (fun e => HN2.out (e ▸ hi))
              · rw [HP.out]
                exact setB_at (u := t) HA2.out
              · exact setB_below (u := t) HBW3.out (by omega)
              · rw [HY2.out, HX2.out, HP.out]
            case measure => simp [intOf]; omega
        · have hf := HFs.out (by omega)
          subst hf
          clear HFk HFs
          have hk0 : ((k : Int) == 0) = false := by simp; omega
          go_wp2
          refine sw_tail 18 (by kernel_rfl) (by kernel_rfl) ?_
          simp only [List.take_succ_cons, List.take_zero, List.drop_succ_cons, List.drop_zero]
          refine sw_want (by rfl) (fun K hK => ?_)
          replace hK := Lib.hid hK
          go_simp
          refine hK.out _ ?_
          clear hK K
          refine sw_want (by rfl) (fun K hK => ?_)
          replace hK := Lib.hid hK
          go_simp
          refine hK.out _ ?_
          clear hK K
          refine sw_want (by rfl) (fun K hK => ?_)
          replace hK := Lib.hid hK
          go_simp
          refine hK.out _ ?_
          clear hK K
          refine sw_want (by rfl) (fun K hK => ?_)
          replace hK := Lib.hid hK
          go_simp
          refine hK.out _ ?_
          clear hK K
          refine sw_want (by rfl) (fun K hK => ?_)
          replace hK := Lib.hid hK
          go_simp
          refine hK.out _ ?_
          clear hK K
          refine sw_want (by rfl) (fun K hK => ?_)
          replace hK := Lib.hid hK
          go_simp
          refine hK.out _ ?_
          clear hK K
          refine sw_want (by rfl) (fun K hK => ?_)
          replace hK := Lib.hid hK
          go_simp
          refine hK.out _ ?_
          clear hK K
          refine sw_want (by rfl) (fun K hK => ?_)
          replace hK := Lib.hid hK
          go_simp
          refine hK.out _ ?_
          clear hK K
          refine sw_want (by rfl) (fun K hK => ?_)
          replace hK := Lib.hid hK
          go_simp
          refine hK.out _ ?_
          clear hK K
          refine sw_want (by rfl) (fun K hK => ?_)
          replace hK := Lib.hid hK
          go_simp
          refine hK.out _ ?_
          clear hK K
          refine sw_want (by rfl) (fun K hK => ?_)
          replace hK := Lib.hid hK
          go_simp
          refine hK.out _ ?_
          clear hK K
          refine sw_want (by rfl) (fun K hK => ?_)
          replace hK := Lib.hid hK
          go_simp
          refine hK.out _ ?_
          clear hK K
          refine sw_want (by rfl) (fun K hK => ?_)
          replace hK := Lib.hid hK
          go_simp
          refine hK.out _ ?_
          clear hK K
          refine sw_want (by rfl) (fun K hK => ?_)
          replace hK := Lib.hid hK
          go_simp
          refine hK.out _ ?_
          clear hK K
          refine sw_want (by rfl) (fun K hK => ?_)
          replace hK := Lib.hid hK
          go_simp
          refine hK.out _ ?_
          clear hK K
          refine sw_want (by rfl) (fun K hK => ?_)
          replace hK := Lib.hid hK
          go_simp
          refine hK.out _ ?_
          clear hK K
          refine sw_want (by rfl) (fun K hK => ?_)
          replace hK := Lib.hid hK
          go_simp
          refine hK.out _ ?_
          clear hK K
          refine sw_want (by rfl) (fun K hK => ?_)
          replace hK := Lib.hid hK
          go_simp
          refine hK.out _ ?_
          clear hK K
          refine sw_nil ?_
          go_wp2_with fail
          refine (tokenR_any wr.drew ⟨G, ve, vr, vo⟩ rs out t a (decide (a.line < t.line)) G rfl HGt.out HGa.out (HL.out.below (Below.refl _ _).drew) (by omega)).mono ?_
          rintro e w2 hp
          unfold RLine at hp
          cases hx : tokL t (decide (a.line < t.line)) (opnB a) rs with
          | none =>
            rw [hx] at hp
            obtain ⟨rfl, s2, av, bv, hbk, hs2⟩ := hp
            have hbk : w2.heap[G]? = _ := hbk
            have hBs : Below G wr w2 := below_und (show Below G wr.drew w2 from below_step (HL.out.below (Below.refl _ _).drew) hs2)
            have hDg2 : w2.heap[w.heap.size]? = some zeroDg := (hBs.block _ (by omega)).trans HDg.out
            have HB2 := Lib.hid (show Below w.heap.size w w2 from HBr.out.trans (hBs.mono (by omega)))
            have hz2 : G < w2.heap.size := (Array.getElem?_eq_some_iff.1 hbk).1
            have hzD : w.heap.size < w2.heap.size := by omega
            have z2 : w2.cell? ⟨G, 2, none⟩ = some (.string ⟨#[]⟩) := by simp [World.cell?, hbk]
            have z3 : w2.cell? ⟨G, 3, none⟩ = some (.int .i64 t.line) := by simp [World.cell?, hbk]
            have z4 : w2.cell? ⟨G, 4, none⟩ = some (.int .i64 t.col) := by simp [World.cell?, hbk]
            have z5 : w2.cell? ⟨G, 5, none⟩ = some (.int .i64 20) := by simp [World.cell?, hbk]
            have y0 : w2.cell? ⟨w.heap.size, 0, none⟩ = some (.string ⟨#[]⟩) := by simp [World.cell?, hDg2, zeroDg]
            have y1 : w2.cell? ⟨w.heap.size, 1, none⟩ = some (.int .i64 0) := by simp [World.cell?, hDg2, zeroDg]
            have y2 : w2.cell? ⟨w.heap.size, 2, none⟩ = some (.int .i64 0) := by simp [World.cell?, hDg2, zeroDg]
            have y3 : w2.cell? ⟨w.heap.size, 3, none⟩ = some (.int .i64 0) := by simp [World.cell?, hDg2, zeroDg]
            have yf : ∀ j, w2.frozen? ⟨w.heap.size, j, none⟩ = false := fun j => by simp [World.frozen?, hDg2, zeroDg]
            have HX2 := Lib.hid hx
            clear hbk hs2 hBs hDg2 hx a0 a1 a2 a3 a4 b0 b1 b2 b3 b4
            go_wp2
            go_region
            all_goals
              go_wp2
              refine bodyPost_ret (v := .tuple #[.slice none 0 0, dgV t.line t.col 20]) (by simp [results, go_sem, dgV, y0, y1, y2, y3]) rfl ?_
              unfold LayPost
              rw [HY2.out, HX2.out]
              refine ⟨rfl, ?_⟩
              exact (bls_set (bls_set (bls_set (bls_set HB2.out (Nat.le_refl _) _ _) (Nat.le_refl _) _ _) (Nat.le_refl _) _ _) (Nat.le_refl _) _ _).drew
          | some y =>
            obtain ⟨r2, o2⟩ := y
            have htl := tok_len hx
            have HPo := Lib.hid (pos_tok t _ _ rs r2 o2 HPos.out hx)
            rw [hx] at hp
            obtain ⟨rfl, s2, hl2, hs2⟩ := hp
            have hBs : Below G wr w2 := below_und (show Below G wr.drew w2 from below_step (HL.out.below (Below.refl _ _).drew) hs2)
            have hAb := hs2.block (G + 1) hAl HNo.out
            have HA2 := Lib.hid (show w2.heap[G + 1]? = some (boxT a) from hAb.1.trans HA.out)
            have HN2 := Lib.hid hAb.2
            have HL2 := Lib.hid hl2
            have HG2 := Lib.hid (show s2.g = G from hs2.g)
            have HBW3 := Lib.hid (HBW2.out.trans hBs)
            have hz2 : G + 1 < w2.heap.size := (Array.getElem?_eq_some_iff.1 HA2.out).1
            have hgl3 : gl < w2.heap.size := by omega
            have d0 := (hBs.cell (p := ⟨gl, k * 5, none⟩) hglG).trans a0
            have d1 := (hBs.cell (p := ⟨gl, k * 5 + 1, none⟩) hglG).trans a1
            have d2 := (hBs.cell (p := ⟨gl, k * 5 + 2, none⟩) hglG).trans a2
            have d3 := (hBs.cell (p := ⟨gl, k * 5 + 3, none⟩) hglG).trans a3
            have d4 := (hBs.cell (p := ⟨gl, k * 5 + 4, none⟩) hglG).trans a4
            clear b0 b1 b2 b3 b4
            obtain ⟨b0, b1, b2, b3, b4⟩ := boxAt_ob HA2.out
            have bf : ∀ j, w2.frozen? ⟨G + 1, j, none⟩ = false := fun j => by have := HA2.out; simp [World.frozen?, this, boxT]
            have HX2 := Lib.hid hx
            clear hl2 hs2 hBs hAb hx a0 a1 a2 a3 a4
            go_wp2
            go_roundw
            case rel =>
              refine ⟨k + 1, s2, r2, out ++ o2, by omega, by go_num, HG2.out, ?_, ?_, HN2.out, ?_, HPo.out, ?_, by simp; omega⟩
              · exact HL2.out.kept fun i hi => setB_other (u := t) (fun e => HN2.out (e ▸ hi))
              · rw [HP.out]
                exact setB_at (u := t) HA2.out
              · exact setB_below (u := t) HBW3.out (by omega)
              · rw [HY2.out, HX2.out, HP.out]
            case measure => simp [intOf]; omega
      · obtain rfl : k = is.length := by omega
        have HGa := Lib.hid (good_prev is HGd.out.1 is.length)
        have HGe := Lib.hid HGd.out.2
        have HY2 := Lib.hid (show layL ts = match lnL en 0 (rs.length + 1) rs with
            | none => .error en
            | some (_, o) => .ok (out ++ ((if opnB ((prevT is is.length).getD zT) then [insT [123] en, insT [125] en] else []) ++ o ++ [en])) by
          rw [HY.out, List.drop_length, layRest, goL]
          simp only [List.getLast?_nil]
          rw [opn_prev, fin_pos en _ rs HPos.out]
          cases lnL en 0 (rs.length + 1) rs with
          | none => rfl
          | some y => simp)
        obtain ⟨a, ha⟩ : ∃ a, a = (prevT is is.length).getD zT := ⟨_, rfl⟩
        rw [← ha] at HA HGa HY2
        clear ha HY
        obtain ⟨b0, b1, b2, b3, b4⟩ := boxAt_ob HA.out
        have hAl : G + 1 < wr.heap.size := (Array.getElem?_eq_some_iff.1 HA.out).1
        have HXe := Lib.hid (show BX ⟨G, ve, vr, vo⟩ wr (w.heap.size + 1) en from ⟨boxAt_ob HEn.out, by omega, fun ho => by have h : G ≤ w.heap.size + 1 := (HL.out.own_lt ho).1; omega⟩)
        obtain ⟨aol, capl, hvl⟩ : ∃ ao cap, u5 = .slice ao is.length cap := by
          rcases own_forms HRow.out with ⟨hv, h0⟩ | ⟨q, cap, hv, _⟩
          · exact ⟨none, 0, by rw [hv, h0]⟩
          · exact ⟨_, cap, hv⟩
        rw [hvl]
        have HVl := Lib.hid hvl
        clear hvl
        go_wp2_with fail
        refine (show Calls Try.prog 39 #[.agg #[.int .i64 a.kind, .string (bt a.text), .int .i64 a.n, .int .i64 a.line, .int .i64 a.col]] wr _ from wordR_any a wr).mono ?_
        rintro e w3 ⟨rfl, hb3⟩
        have HL3 := Lib.hid (HL.out.below hb3)
        have HS3 := Lib.hid (Step.of_below ⟨G, ve, vr, vo⟩ hb3)
        have HX3 := Lib.hid (HXe.out.below hb3)
        clear hb3 b0 b1 b2 b3 b4 HXe
        go_wp2_with fail
        refine (opener_any (wdL a) w3).mono ?_
        rintro e w4 ⟨rfl, rfl⟩
        rw [good_opn HGa.out]
        obtain ⟨op, hop⟩ : ∃ op, op = opnB a := ⟨_, rfl⟩
        rw [← hop] at HY2
        rw [← hop]
        clear hop HGa
        go_upto_if 83 with fail
        go_cut [] (fun wx => ∃ s2, RAt wx s2 rs (out ++ (if op then [insT [123] en, insT [125] en] else [])) ∧ Step ⟨G, ve, vr, vo⟩ s2 wr wx ∧ BX s2 wx (w.heap.size + 1) en)
        case first =>
          cases op with
          | false =>
            go_wp2_with fail
            go_meet
            exact ⟨_, by simpa using HL3.out, HS3.out, HX3.out⟩
          | true =>
            obtain ⟨x0, x1, x2, x3, x4⟩ := HX3.out.at_
            have hbw := HX3.out.lt
            go_wp2_with fail
            refine (layR_g w3 ⟨G, ve, vr, vo⟩ rs out [123] en G rfl HL3.out (by omega)).mono ?_
            rintro e w5 ⟨rfl, ⟨g5, ve5, vr5, vo5⟩, hv5, hl5, hs5⟩
            clear hv5
            obtain rfl : G = g5 := hs5.g.symm
            have HL5 := Lib.hid hl5
            have HS5 := Lib.hid (HS3.out.trans hs5)
            have HX5 := Lib.hid (HX3.out.step hs5)
            clear hl5 hs5 x0 x1 x2 x3 x4 hbw
            obtain ⟨x0, x1, x2, x3, x4⟩ := HX5.out.at_
            have hbw := HX5.out.lt
            go_wp2_with fail
            refine (layR_g w5 ⟨G, ve5, vr5, vo5⟩ rs (out ++ [insT [123] en]) [125] en G rfl HL5.out (by simp; omega)).mono ?_
            rintro e w6 ⟨rfl, s6, hv6, hl6, hs6⟩
            clear hv6
            have HL6 := Lib.hid hl6
            have HS6 := Lib.hid (HS5.out.trans hs6)
            have HX6 := Lib.hid (HX5.out.step hs6)
            clear hl6 hs6 x0 x1 x2 x3 x4
            go_wp2_with fail
            go_meet
            exact ⟨s6, by simpa using HL6.out, HS6.out, HX6.out⟩
        case rest =>
          clear HL3 HS3 HX3
          obtain ⟨⟨g2, ve2, vr2, vo2⟩, hl2, hs2, hx2⟩ := hcut
          obtain rfl : G = g2 := hs2.g.symm
          obtain ⟨O2, hO2⟩ : ∃ O2, O2 = out ++ (if op then [insT [123] en, insT [125] en] else []) := ⟨_, rfl⟩
          rw [← hO2] at hl2
          have hO2l : O2.length ≤ out.length + 2 := by rw [hO2]; cases op <;> simp
          have HO2 := Lib.hid hO2
          have HL2 := Lib.hid hl2
          have HX2 := Lib.hid hx2
          have HBc := Lib.hid (below_step HL.out hs2)
          clear hl2 hs2 hx2 hO2
          obtain ⟨x0, x1, x2, x3, x4⟩ := HX2.out.at_
          have hbw := HX2.out.lt
          go_wp2_with fail
          refine (lineR_g wc ⟨G, ve2, vr2, vo2⟩ rs O2 en 0 G rfl HGe.out HL2.out (by omega)).mono ?_
          rintro e w2 hp
          unfold RLine at hp
          cases hln : lnL en 0 (rs.length + 1) rs with
          | none =>
            rw [hln] at hp HY2
            obtain ⟨rfl, s3, av, bv, hbk, hs3⟩ := hp
            have hbk : w2.heap[G]? = _ := hbk
            have hBs : Below G wr w2 := HBc.out.trans (below_step HL2.out hs3)
            have hDg2 : w2.heap[w.heap.size]? = some zeroDg := (hBs.block _ (by omega)).trans HDg.out
            have HB2 := Lib.hid (show Below w.heap.size w w2 from HBr.out.trans (hBs.mono (by omega)))
            have hz2 : G < w2.heap.size := (Array.getElem?_eq_some_iff.1 hbk).1
            have hzD : w.heap.size < w2.heap.size := by omega
            have z2 : w2.cell? ⟨G, 2, none⟩ = some (.string ⟨#[]⟩) := by simp [World.cell?, hbk]
            have z3 : w2.cell? ⟨G, 3, none⟩ = some (.int .i64 en.line) := by simp [World.cell?, hbk]
            have z4 : w2.cell? ⟨G, 4, none⟩ = some (.int .i64 en.col) := by simp [World.cell?, hbk]
            have z5 : w2.cell? ⟨G, 5, none⟩ = some (.int .i64 20) := by simp [World.cell?, hbk]
            have y0 : w2.cell? ⟨w.heap.size, 0, none⟩ = some (.string ⟨#[]⟩) := by simp [World.cell?, hDg2, zeroDg]
            have y1 : w2.cell? ⟨w.heap.size, 1, none⟩ = some (.int .i64 0) := by simp [World.cell?, hDg2, zeroDg]
            have y2 : w2.cell? ⟨w.heap.size, 2, none⟩ = some (.int .i64 0) := by simp [World.cell?, hDg2, zeroDg]
            have y3 : w2.cell? ⟨w.heap.size, 3, none⟩ = some (.int .i64 0) := by simp [World.cell?, hDg2, zeroDg]
            have yf : ∀ j, w2.frozen? ⟨w.heap.size, j, none⟩ = false := fun j => by simp [World.frozen?, hDg2, zeroDg]
            clear hbk hs3 hBs hDg2 x0 x1 x2 x3 x4
            go_wp2
            go_region
            all_goals
              go_wp2
              refine bodyPost_ret (v := .tuple #[.slice none 0 0, dgV en.line en.col 20]) (by simp [results, go_sem, dgV, y0, y1, y2, y3]) rfl ?_
              unfold LayPost
              rw [HY2.out]
              refine ⟨rfl, ?_⟩
              exact (bls_set (bls_set (bls_set (bls_set HB2.out (Nat.le_refl _) _ _) (Nat.le_refl _) _ _) (Nat.le_refl _) _ _) (Nat.le_refl _) _ _).drew
          | some y =>
            obtain ⟨r3, o3⟩ := y
            have hlen3 := ln_len en 0 _ rs r3 o3 hln
            rw [hln] at hp HY2
            obtain ⟨rfl, ⟨g3, ve3, vr3, vo3⟩, hl3, hs3⟩ := hp
            obtain rfl : G = g3 := hs3.g.symm
            have hBs : Below G wr w2 := HBc.out.trans (below_step HL2.out hs3)
            have hDg2 : w2.heap[w.heap.size]? = some zeroDg := (hBs.block _ (by omega)).trans HDg.out
            have HB2 := Lib.hid (show Below w.heap.size w w2 from HBr.out.trans (hBs.mono (by omega)))
            have HX3 := Lib.hid (HX2.out.step hs3)
            obtain ⟨O4, hO4⟩ : ∃ O4, O4 = O2 ++ o3 := ⟨_, rfl⟩
            rw [← hO4] at hl3
            have hO4l : O4.length ≤ 9000000 := by rw [hO4]; simp; omega
            have HO4 := Lib.hid hO4
            have HL3 := Lib.hid hl3
            have hz2 : G < w2.heap.size := hl3.g_lt
            have hzD : w.heap.size < w2.heap.size := by omega
            have c0 : w2.cell? ⟨G, 0, none⟩ = some vo3 := hl3.cells.1
            have HDO := Lib.hid (show some w.heap.size ≠ vo3.ownBlock from fun e => by have h : G + 1 ≤ w.heap.size := (HL3.out.ou.lt _ e.symm).1; omega)
            have HDg2 := Lib.hid hDg2
            have yf0 : ∀ j, w2.frozen? ⟨w.heap.size, j, none⟩ = false := fun j => by simp [World.frozen?, hDg2, zeroDg]
            have y00 : w2.cell? ⟨w.heap.size, 0, none⟩ = some (.string ⟨#[]⟩) := by simp [World.cell?, hDg2, zeroDg]
            have y10 : w2.cell? ⟨w.heap.size, 1, none⟩ = some (.int .i64 0) := by simp [World.cell?, hDg2, zeroDg]
            have y20 : w2.cell? ⟨w.heap.size, 2, none⟩ = some (.int .i64 0) := by simp [World.cell?, hDg2, zeroDg]
            have y30 : w2.cell? ⟨w.heap.size, 3, none⟩ = some (.int .i64 0) := by simp [World.cell?, hDg2, zeroDg]
            clear hl3 hs3 hBs hDg2 hO4 x0 x1 x2 x3 x4 hbw
            obtain ⟨x0, x1, x2, x3, x4⟩ := HX3.out.at_
            have hbw := HX3.out.lt
            go_wp2
            go_region_law ((refine step_append_lies _ (by rfl) _ _ _ (by rfl) (G + 1) 33 i0 _ 5 48 under_rts hi hz0 hz1 hz2i rfl (by omega) vo3 O4.length (rtsCells O4) (by rfl) (by exact ((HL3.out.ou).drew).alloc _) ⟨w2.heap.size, 0, none⟩ 1 1 (rtCells en) (by rfl) (by rfl) (by exact rt_newsD w2 en) (rt_one en) (by omega) (by simp [maxLen]; omega) (by omega) (by simp; omega) _ rfl ?_; intro gg capg wg hown hgrow hat hlt; have Fg : ∀ j, wg.frozen? ⟨w.heap.size, j, none⟩ = false := fun j => (hgrow.frozen_far ⟨w.heap.size, j, none⟩ (by simp; omega) HDO.out).trans (frozen_alD w2 _ hzD (yf0 j)); have C0 : wg.cell? ⟨w.heap.size, 0, none⟩ = some (.string ⟨#[]⟩) := (hgrow.cell_far ⟨w.heap.size, 0, none⟩ (by simp; omega) HDO.out).trans (cell_alD w2 _ hzD y00); have C1 : wg.cell? ⟨w.heap.size, 1, none⟩ = some (.int .i64 0) := (hgrow.cell_far ⟨w.heap.size, 1, none⟩ (by simp; omega) HDO.out).trans (cell_alD w2 _ hzD y10); have C2 : wg.cell? ⟨w.heap.size, 2, none⟩ = some (.int .i64 0) := (hgrow.cell_far ⟨w.heap.size, 2, none⟩ (by simp; omega) HDO.out).trans (cell_alD w2 _ hzD y20); have C3 : wg.cell? ⟨w.heap.size, 3, none⟩ = some (.int .i64 0) := (hgrow.cell_far ⟨w.heap.size, 3, none⟩ (by simp; omega) HDO.out).trans (cell_alD w2 _ hzD y30); have hzg : w.heap.size < wg.heap.size := (by have := hgrow.size; simp at this; omega); have HOwn := Lib.hid hown; have HGrow := Lib.hid hgrow; clear hown hgrow hat))
            all_goals
              go_wp2
              refine bodyPost_ret (v := .tuple #[.slice (some ⟨gg, 0, none⟩) (O4.length + 1) capg, dgV 0 0 0]) (by simp [results, go_sem, dgV, C0, C1, C2, C3]) rfl ?_
              unfold LayPost
              rw [HY2.out]
              have HBg := Lib.hid (show Below w.heap.size w wg from ((HB2.out.drew).alloc HB2.out.size _).grown HGrow.out (by simp; omega) (fun q hq => by have h : G + 1 ≤ q := (HL3.out.ou.lt q hq).1; omega))
              refine ⟨.slice (some ⟨gg, 0, none⟩) (O4.length + 1) capg, rfl, ?_, bls_set (bls_set (bls_set (bls_set HBg.out (Nat.le_refl _) _ _) (Nat.le_refl _) _ _) (Nat.le_refl _) _ _) (Nat.le_refl _) _ _⟩
              have hfin : out ++ ((if op then [insT [123] en, insT [125] en] else []) ++ o3 ++ [en]) = O4 ++ [en] := by rw [HO4.out, HO2.out]; simp
              rw [hfin, rtsCells_snoc, List.length_append]
              have hD1 : w.heap.size < G + 1 := by omega
              exact (own_set (own_set (own_set (own_set HOwn.out hD1 _ _) hD1 _ _) hD1 _ _) hD1 _ _).mono (by omega)
end Go.Proofs.Ytbjbmehkcfpahaa
