/- The walk of the law LayoutPlain: it answers true and leaves what was there. No condition but a bound on the number of tokens. -/
import Derived.Test.YtbjbmehkcfpahaaLayEmpty
import Derived.Test.YtbjbmehkcfpahaaLayAwake
import Derived.Test.YtbjbmehkcfpahaaLayPure2
import Derived.BigFrame
namespace Go.Proofs.Ytbjbmehkcfpahaa
open Go.RowKit Lx
attribute [local go_sem] bt_size bt_get bt_list bt_toList bt_drop bt_take
attribute [local go_sem ↓] Go.wp_at_zero Go.wp_at_succ

set_option maxHeartbeats 800000 in
set_option maxRecDepth 100000 in
theorem sameR_any (w : World) (g1 g2 o1 o2 cap1 cap2 : Nat) (ts : List Rt) (h1 : RtAt w g1 o1 ts) (h2 : RtAt w g2 o2 ts) (hl : ts.length ≤ 10000000) :
    Calls Try.prog 10 #[.slice (some ⟨g1, o1, none⟩) ts.length cap1, .slice (some ⟨g2, o2, none⟩) ts.length cap2] w fun e w' => e = .returned (.bool true) ∧ ∃ m, w' = w.drewN m := by
  have H1 := Lib.hid h1
  have H2 := Lib.hid h2
  clear h1 h2
  go_enter Try.func10, Try.ntmps10
  go_wp2
  go_loopw [5] (fun i wr => ∃ k m : Nat, k ≤ ts.length ∧ i = .int .i64 k ∧ wr = w.drewN m) (fun i _ => ts.length - (intOf i).toNat)
  case atStart => exact ⟨0, 0, Nat.zero_le _, rfl, rfl⟩
  case round =>
    obtain ⟨k, m, hk, rfl, rfl⟩ := hrel
    by_cases hlt : k < ts.length
    · obtain ⟨a0, a1, a2, a3, a4⟩ := H1.out k ts[k] (by simp [hlt])
      obtain ⟨b0, b1, b2, b3, b4⟩ := H2.out k ts[k] (by simp [hlt])
      revert a0 a1 a2 a3 a4 b0 b1 b2 b3 b4
      generalize ts[k] = tk
      intro a0 a1 a2 a3 a4 b0 b1 b2 b3 b4
      go_wp2
      go_quiet (fail)
      go_wp2
      go_roundw
      case rel => exact ⟨k + 1, _, by omega, by go_num, rfl⟩
      case measure => simp [intOf]; omega
    · go_wp2
      go_ret
      exact ⟨rfl, _, rfl⟩

/-- Is it a word or a sign with the text of an opener? -/
def opnT (t : Rt) : Bool := (t.kind == 7 || t.kind == 8) && oneB opnW t.text
theorem opn_of {t : Rt} (h : opnT t = false) : opnB t = false := by
  unfold opnT at h
  unfold opnB wordT
  cases h7 : (t.kind == 7) with
  | false => rfl
  | true => rw [h7] at h; simpa using h

theorem split_all' (ts : List Rt) (h : ∀ t ∈ ts, t.kind ≠ 9) : splitL none ts = (ts, endT ts.getLast?) := by
  rw [split_all ts none h]
  cases ts.getLast? <;> rfl
theorem boxAt_obj {w : World} {b : Nat} {t : Rt} (h : w.heap[b]? = some (boxT t)) : BoxAt w b t := by
  refine ⟨?_, ?_, ?_, ?_, ?_⟩ <;> simp [World.cell?, h, boxT]
theorem rt_news3 (w : World) (o1 : Obj) (t : Rt) : ∀ j u, (rtCells t)[j]? = some u → ((w.alloc o1).alloc (boxT t)).cell? ((⟨w.heap.size + 1, 0, none⟩ : Addr).add j) = some u := by
  refine rt_news (T := 33) (fr := (0, 0)) ?_
  have := heap_alloc_new (w.alloc o1) (boxT t)
  rw [show (w.alloc o1).heap.size = w.heap.size + 1 from by simp] at this
  exact this

theorem box_set5 {w : World} {E : Nat} {t u : Rt} (h : w.heap[E]? = some (boxT t)) : (((((w.setCell ⟨E, 0, none⟩ (.int .i64 u.kind)).setCell ⟨E, 1, none⟩ (.string (bt u.text))).setCell ⟨E, 2, none⟩ (.int .i64 u.n)).setCell ⟨E, 3, none⟩ (.int .i64 u.line)).setCell ⟨E, 4, none⟩ (.int .i64 u.col)).heap[E]? = some (boxT u) := by
  simp [World.setCell, Array.getElem?_modify, h, boxT]
theorem blw_set5 {a w : World} {E : Nat} {u : Rt} (h : Below a.heap.size a w) (hE : a.heap.size ≤ E) : Below a.heap.size a (((((w.setCell ⟨E, 0, none⟩ (.int .i64 u.kind)).setCell ⟨E, 1, none⟩ (.string (bt u.text))).setCell ⟨E, 2, none⟩ (.int .i64 u.n)).setCell ⟨E, 3, none⟩ (.int .i64 u.line)).setCell ⟨E, 4, none⟩ (.int .i64 u.col)) :=
  bls_set (bls_set (bls_set (bls_set (bls_set h hE _ _) hE _ _) hE _ _) hE _ _) hE _ _
theorem own_set5 {w : World} {base : Nat} {e : TypeId} {size : Nat} {v : Value} {n : Nat} {xs : List Value} {E : Nat} {u : Rt} (h : w.ownsRow base e size v n xs) (hE : E < base) : (((((w.setCell ⟨E, 0, none⟩ (.int .i64 u.kind)).setCell ⟨E, 1, none⟩ (.string (bt u.text))).setCell ⟨E, 2, none⟩ (.int .i64 u.n)).setCell ⟨E, 3, none⟩ (.int .i64 u.line)).setCell ⟨E, 4, none⟩ (.int .i64 u.col)).ownsRow base e size v n xs :=
  own_set (own_set (own_set (own_set (own_set h hE _ _) hE _ _) hE _ _) hE _ _) hE _ _

/-- At the head of each round of the law's loop. -/
def PlRel (w : World) (ts : List Rt) (v i : Value) (wr : World) : Prop :=
  ∃ k : Nat, k ≤ ts.length ∧ i = .int .i64 k ∧ (∀ t ∈ ts.take k, t.kind ≠ 9 ∧ opnT t = false) ∧ wr.heap[w.heap.size]? = some (boxT (endT (ts.take k).getLast?)) ∧
    wr.ownsRow (w.heap.size + 1) 33 5 v k (rtsCells (ts.take k)) ∧ Below w.heap.size w wr

set_option maxHeartbeats 4000000 in
set_option maxRecDepth 100000 in
theorem plain_some (w : World) (b off cap : Nat) (ts : List Rt) (h : RtAt w b off ts) (hb : b < w.heap.size) (hc : ts.length ≤ cap) (hm : cap ≤ maxLen) (h0 : 0 < ts.length) (hn : ts.length ≤ 200000) :
    Calls Try.prog 7 #[.slice (some ⟨b, off, none⟩) ts.length cap] w fun e w' => e = .returned (.bool true) ∧ Below w.heap.size w w' := by
  obtain ⟨i0, hi, hz0, hz1, hz2i⟩ := info_parts info_rt
  have HT := Lib.hid h
  clear h
  go_enter Try.func7, Try.ntmps7
  go_wp2
  go_loopw [4, 5] (fun v i wr => PlRel w ts v i wr) (fun _ i _ => ts.length - (intOf i).toNat)
  case atStart => exact ⟨0, Nat.zero_le _, rfl, by simp, heap_alloc_new w (boxT (endT none)), World.ownsRow_nil _ _ _ _, below_alloc _ _⟩
  case round =>
    obtain ⟨k, hk, rfl, hall, hbx, hown, hbel⟩ := hrel
    have HA := Lib.hid hall
    have HX := Lib.hid hbx
    have HO := Lib.hid hown
    have HB := Lib.hid hbel
    have hze : w.heap.size < wr.heap.size := (Array.getElem?_eq_some_iff.1 hbx).1
    have hbr : b < wr.heap.size := Nat.lt_of_lt_of_le hb hbel.size
    clear hall hbx hown hbel
    by_cases hlt : k < ts.length
    · obtain ⟨a0, a1, a2, a3, a4⟩ := (HT.out.below HB.out hb) k ts[k] (by simp [hlt])
      have HTk := Lib.hid (List.take_succ_eq_append_getElem hlt)
      have HSp := Lib.hid (fun h9 : ts[k].kind = 9 => split_found ts none k hlt (fun t ht => (HA.out t ht).1) h9)
      revert a0 a1 a2 a3 a4 HTk HSp
      generalize ts[k] = t
      intro a0 a1 a2 a3 a4 HTk HSp
      cases hop : opnT t with
      | true =>
        have hcase : ((t.kind == 7) = true ∨ ((t.kind == 7) = false ∧ (t.kind == 8) = true)) ∧ ((t.text == [119, 104, 101, 114, 101]) = true ∨ ((t.text == [119, 104, 101, 114, 101]) = false ∧ (t.text == [108, 101, 116]) = true) ∨ ((t.text == [119, 104, 101, 114, 101]) = false ∧ (t.text == [108, 101, 116]) = false ∧ (t.text == [100, 111]) = true) ∨ ((t.text == [119, 104, 101, 114, 101]) = false ∧ (t.text == [108, 101, 116]) = false ∧ (t.text == [100, 111]) = false ∧ (t.text == [111, 102]) = true)) := by
          simp only [opnT, Bool.and_eq_true, Bool.or_eq_true, oneB, opnW, List.contains_cons, List.contains_nil, Bool.or_false] at hop
          refine ⟨?_, ?_⟩
          · cases h7 : (t.kind == 7) with
            | true => exact .inl rfl
            | false => rcases hop.1 with h | h; rw [h7] at h; cases h; exact .inr ⟨rfl, h⟩
          · rcases hop.2 with h | h | h | h <;> (have e := eq_of_beq h; rw [e]; simp)
        clear hop HTk HSp HA HX HO
        obtain ⟨hk1, ht1⟩ := hcase
        rcases hk1 with k7 | ⟨k7, k8⟩ <;> rcases ht1 with t1 | ⟨t1, t2⟩ | ⟨t1, t2, t3⟩ | ⟨t1, t2, t3, t4⟩
        all_goals
          go_wp2_with fail
          refine (awake2_any _).mono ?_
          rintro e w3 ⟨rfl, hb3⟩
          have HB3 := Lib.hid (blwS HB.out hb3 (by have := HB.out.size; omega))
          clear hb3
          go_wp2
          go_ret
          exact ⟨rfl, HB3.out⟩
      | false =>
        have hx4 := boxAt_obj HX.out
        obtain ⟨e0, e1, e2, e3, e4⟩ := hx4
        have ef : ∀ j, wr.frozen? ⟨w.heap.size, j, none⟩ = false := fun j => by have := HX.out; simp [World.frozen?, this, boxT]
        by_cases h9 : t.kind = 9
        · have k7 : (t.kind == 7) = false := by rw [h9]; rfl
          have k8 : (t.kind == 8) = false := by rw [h9]; rfl
          have k9 : (t.kind == 9) = true := by rw [h9]; rfl
          have HLy := Lib.hid (show layL ts = .ok (ts.take k ++ [t]) by
            have hs := HSp.out h9
            have := lay_plain ts (by rw [hs]; exact fun x hx => opn_of (HA.out x hx).2)
            rwa [hs] at this)
          have HOx' := Lib.hid (own_set5 (u := t) HO.out (Nat.lt_succ_self _))
          have HXx' := Lib.hid (box_set5 (u := t) HX.out)
          have HBx' := Lib.hid (blw_set5 (u := t) HB.out (Nat.le_refl _))
          clear HSp HTk hop h9
          go_wp2_with fail
          revert HOx' HXx' HBx'
          generalize World.setCell (World.setCell (World.setCell (World.setCell (World.setCell wr _ _) _ _) _ _) _ _) _ _ = W
          intro HOx' HXx' HBx'
          obtain ⟨is, his⟩ : ∃ is, is = ts.take k := ⟨_, rfl⟩
          have hisk : is.length = k := by rw [his]; simp; omega
          have HLy := Lib.hid (show layL ts = .ok (is ++ [t]) by rw [his]; exact HLy.out)
          have HOx := Lib.hid (show W.ownsRow (w.heap.size + 1) 33 5 u4 is.length (rtsCells is) by rw [hisk, his]; exact HOx'.out)
          obtain ⟨en, hen⟩ : ∃ en, en = t := ⟨_, rfl⟩
          rw [← hen] at HLy
          have HXx := Lib.hid (show W.heap[w.heap.size]? = some (boxT en) by rw [hen]; exact HXx'.out)
          have HBx := HBx'
          have hzx : w.heap.size < W.heap.size := (Array.getElem?_eq_some_iff.1 HXx.out).1
          have hbx : b < W.heap.size := by omega
          have hisl : is.length ≤ 200000 := by omega
          clear his hisk hen HX HO HB HOx' HXx' HBx' e0 e1 e2 e3 e4 ef a0 a1 a2 a3 a4 k7 k8 k9 HA
          refine (lay_ok HLy.out (HT.out.below HBx.out hb) hbx hc hm (by omega)).mono ?_
          rintro e w2 ⟨v2, rfl, ho2, hb2⟩
          obtain ⟨g2, cap2, rfl, hg2, hl2, hc2, hm2, ht2⟩ := rts_form ho2 (by simp)
          have HO2 := Lib.hid (own_same HOx.out fun q hq => hb2.block q (HOx.out.lt q hq).2)
          have hE2 : BoxAt w2 w.heap.size en := (boxAt_obj HXx.out).below hb2 hzx
          obtain ⟨x0, x1, x2, x3, x4⟩ := hE2
          have hz2 : w.heap.size < w2.heap.size := Nat.lt_of_lt_of_le hzx hb2.size
          have HR2 := Lib.hid ht2
          have HB2 := Lib.hid (blwS HBx.out hb2 (by omega))
          have HNe := Lib.hid (show ∀ q, u4.ownBlock = some q → q < g2 from fun q hq => Nat.lt_of_lt_of_le (HOx.out.lt q hq).2 hg2)
          clear ho2 hb2 ht2
          unfold dgV
          go_wp2_with (at_builtin; refine BigFrame.wpList_want (by rfl) (fun K hK => ?_); refine wp_append_lies _ _ _ _ (by rfl) (w.heap.size + 1) 33 i0 _ 5 48 under_rts hi hz0 hz1 hz2i rfl (by decide) u4 is.length (rtsCells is) (by rfl) ((HO2.out.alloc _).alloc _) ⟨w2.heap.size + 1, 0, none⟩ 1 1 (rtCells en) (by rfl) (by rfl) (rt_news3 w2 _ en) (rt_one en) (by omega) (by simp [maxLen]; omega) (by omega) (by simp; omega) _ rfl ?_; intro g6 cap6 w6 hown6 hgrow hat hlt6; refine hK _ _ ?_; clear hK)
          obtain ⟨_, _, hve, hg6, hl6, hc6, hm6, ht6⟩ := rts_form (show w6.ownsRow (w.heap.size + 1) 33 5 (.slice (some ⟨g6, 0, none⟩) (is.length + 1) cap6) (is ++ [en]).length (rtsCells (is ++ [en])) by rw [rtsCells_snoc, List.length_append]; exact hown6) (by simp)
          obtain ⟨rfl, rfl⟩ : g6 = _ ∧ cap6 = _ := by
            injection hve with h1 h2 h3
            injection h1 with h1
            injection h1 with h1 _ _
            exact ⟨h1, h3⟩
          have HR6 := Lib.hid (HR2.out.same (show w6.heap[g2]? = w2.heap[g2]? from (hgrow.block g2 (by simp; omega) (fun e => by have := HNe.out g2 e.symm; omega)).trans (by rw [Below.heap_alloc _ _ _ (by simp; omega), Below.heap_alloc _ _ _ hl2])))
          have HT6 := Lib.hid ht6
          have HB6 := Lib.hid (show Below w.heap.size w w6 from ((HB2.out.alloc HB2.out.size _).alloc (by simp; omega) _).grown hgrow (by simp; omega) (fun q hq => by have := (HOx.out.lt q hq).1; omega))
          clear hown6 hgrow ht6 hat hve
          go_wp2_with fail
          rw [show is.length + 1 = (is ++ [en]).length from by simp]
          refine (sameR_any w6 g2 g6 0 0 cap2 cap6 (is ++ [en]) HR6.out HT6.out (by simp; omega)).mono ?_
          rintro e w7 ⟨rfl, m, rfl⟩
          go_wp2_with fail
          refine (awake2_any _).mono ?_
          rintro e w8 ⟨rfl, hb8⟩
          have HB8 := Lib.hid (blwS (bls_drewN HB6.out m) hb8 (by have := HB6.out.size; exact this))
          clear hb8
          go_wp2
          go_ret
          exact ⟨rfl, HB8.out⟩
        · have hcase : ((t.kind == 7) = true ∧ (t.text == [119, 104, 101, 114, 101]) = false ∧ (t.text == [108, 101, 116]) = false ∧ (t.text == [100, 111]) = false ∧ (t.text == [111, 102]) = false) ∨ ((t.kind == 7) = false ∧ (t.kind == 8) = true ∧ (t.text == [119, 104, 101, 114, 101]) = false ∧ (t.text == [108, 101, 116]) = false ∧ (t.text == [100, 111]) = false ∧ (t.text == [111, 102]) = false) ∨ ((t.kind == 7) = false ∧ (t.kind == 8) = false) := by
            simp only [opnT, oneB, opnW, List.contains_cons, List.contains_nil, Bool.or_false] at hop
            cases h7 : (t.kind == 7) <;> cases h8 : (t.kind == 8) <;> simp [h7, h8] at hop ⊢ <;> exact hop
          have h9' : (t.kind == 9) = false := by simpa using h9
          have HOp := Lib.hid (show t.kind ≠ 9 ∧ opnT t = false from ⟨h9, hop⟩)
          clear hop h9 HSp
          have HNe := Lib.hid (show some b ≠ u4.ownBlock from fun e => by have := (HO.out.lt b e.symm).1; omega)
          have HNE := Lib.hid (show some w.heap.size ≠ u4.ownBlock from fun e => by have := (HO.out.lt _ e.symm).1; omega)
          rcases hcase with ⟨k7, t1, t2, t3, t4⟩ | ⟨k7, k8, t1, t2, t3, t4⟩ | ⟨k7, k8⟩
          all_goals
            go_wp2_with (at_builtin; refine wpList_append_lies _ rfl _ _ _ rfl (w.heap.size + 1) 33 i0 _ 5 48 under_rts hi hz0 hz1 hz2i rfl (by decide) u4 k (rtsCells (ts.take k)) rfl (HO.out.alloc _) ⟨wr.heap.size, 0, none⟩ 1 1 (rtCells t) rfl rfl (rt_news (by exact heap_alloc_new wr (boxT t))) (rt_one t) (by omega) (by simp [maxLen]; omega) (by omega) (by simp; omega) _ rfl ?_; intro g6 cap6 w6 hown6 hgrow hat hlt6)
            have HO6 := Lib.hid hown6
            have hgb : w6.heap[b]? = wr.heap[b]? := (hgrow.block b (by simp; omega) HNe.out).trans (Below.heap_alloc _ _ _ hbr)
            have hgE : w6.heap[w.heap.size]? = wr.heap[w.heap.size]? := (hgrow.block _ (by simp; omega) HNE.out).trans (Below.heap_alloc _ _ _ hze)
            have HB6 := Lib.hid (show Below w.heap.size w w6 from (HB.out.alloc HB.out.size _).grown hgrow (by simp; omega) (fun q hq => by have := (HO.out.lt q hq).1; omega))
            have f3 := (World.cell?_of_block (a := ⟨b, off + k * 5 + 3, none⟩) hgb).trans a3
            have f4 := (World.cell?_of_block (a := ⟨b, off + k * 5 + 4, none⟩) hgb).trans a4
            have HX6 := Lib.hid (hgE.trans HX.out)
            have hzE : w.heap.size < w6.heap.size := by have := hgrow.size; simp at this; omega
            have hzb : b < w6.heap.size := by have := hgrow.size; simp at this; omega
            obtain ⟨e0', e1', e2', e3', e4'⟩ := boxAt_obj HX6.out
            have ef' : ∀ j, w6.frozen? ⟨w.heap.size, j, none⟩ = false := fun j => by have := HX6.out; simp [World.frozen?, this, boxT]
            clear hown6 hgrow hat hgb hgE
            go_wp2
            go_region
            all_goals
              go_wp2
              go_roundw
              case rel =>
                refine ⟨k + 1, by omega, by go_num, ?_, ?_, ?_, ?_⟩
                · intro x hx
                  rw [HTk.out] at hx
                  rcases List.mem_append.1 hx with hx | hx
                  · exact HA.out x hx
                  · simp at hx; rw [hx]; exact HOp.out
                · rw [HTk.out, List.getLast?_concat]
                  exact box_set5 (u := endT (some t)) HX6.out
                · rw [HTk.out, rtsCells_snoc]
                  exact (own_set5 (u := endT (some t)) HO6.out (Nat.lt_succ_self _)).drew
                · exact (blw_set5 (u := endT (some t)) HB6.out (Nat.le_refl _)).drew
              case measure => simp [intOf]; omega
    · obtain rfl : k = ts.length := by omega
      have HLy := Lib.hid (show layL ts = .ok (ts ++ [endT ts.getLast?]) by
        have hs := split_all' ts (fun t ht => (HA.out t (by rw [List.take_of_length_le (by omega)]; exact ht)).1)
        have := lay_plain ts (by rw [hs]; exact fun t ht => opn_of (HA.out t (by rw [List.take_of_length_le (by omega)]; exact ht)).2)
        rwa [hs] at this)
      rw [List.take_of_length_le (Nat.le_refl _)] at HX HO
      obtain ⟨en, hen⟩ : ∃ en, en = endT ts.getLast? := ⟨_, rfl⟩
      rw [← hen] at HX HLy
      obtain ⟨is, his⟩ : ∃ is, is = ts := ⟨_, rfl⟩
      have HLy := Lib.hid (show layL ts = .ok (is ++ [en]) by rw [his]; exact HLy.out)
      have HOx := Lib.hid (show wr.ownsRow (w.heap.size + 1) 33 5 u4 is.length (rtsCells is) by rw [his]; exact HO.out)
      have HXx := HX
      have HBx := HB
      have hbx := hbr
      have hzx := hze
      have hisl : is.length ≤ 200000 := by rw [his]; exact hn
      rw [show (u4 : Value) = u4 from rfl]
      clear his hen HX HO HB hbr hze hlt hk
      go_wp2_with fail
      refine (lay_ok HLy.out (HT.out.below HBx.out hb) hbx hc hm (by omega)).mono ?_
      rintro e w2 ⟨v2, rfl, ho2, hb2⟩
      obtain ⟨g2, cap2, rfl, hg2, hl2, hc2, hm2, ht2⟩ := rts_form ho2 (by simp)
      have HO2 := Lib.hid (own_same HOx.out fun q hq => hb2.block q (HOx.out.lt q hq).2)
      have hE2 : BoxAt w2 w.heap.size en := (boxAt_obj HXx.out).below hb2 hzx
      obtain ⟨x0, x1, x2, x3, x4⟩ := hE2
      have hz2 : w.heap.size < w2.heap.size := Nat.lt_of_lt_of_le hzx hb2.size
      have HR2 := Lib.hid ht2
      have HB2 := Lib.hid (blwS HBx.out hb2 (by omega))
      have HNe := Lib.hid (show ∀ q, u4.ownBlock = some q → q < g2 from fun q hq => Nat.lt_of_lt_of_le (HOx.out.lt q hq).2 hg2)
      clear ho2 hb2 ht2
      unfold dgV
      go_wp2_with (at_builtin; refine BigFrame.wpList_want (by rfl) (fun K hK => ?_); refine wp_append_lies _ _ _ _ (by rfl) (w.heap.size + 1) 33 i0 _ 5 48 under_rts hi hz0 hz1 hz2i rfl (by decide) u4 is.length (rtsCells is) (by rfl) ((HO2.out.alloc _).alloc _) ⟨w2.heap.size + 1, 0, none⟩ 1 1 (rtCells en) (by rfl) (by rfl) (rt_news3 w2 _ en) (rt_one en) (by omega) (by simp [maxLen]; omega) (by omega) (by simp; omega) _ rfl ?_; intro g6 cap6 w6 hown6 hgrow hat hlt6; refine hK _ _ ?_; clear hK)
      obtain ⟨_, _, hve, hg6, hl6, hc6, hm6, ht6⟩ := rts_form (show w6.ownsRow (w.heap.size + 1) 33 5 (.slice (some ⟨g6, 0, none⟩) (is.length + 1) cap6) (is ++ [en]).length (rtsCells (is ++ [en])) by rw [rtsCells_snoc, List.length_append]; exact hown6) (by simp)
      obtain ⟨rfl, rfl⟩ : g6 = _ ∧ cap6 = _ := by
        injection hve with h1 h2 h3
        injection h1 with h1
        injection h1 with h1 _ _
        exact ⟨h1, h3⟩
      have HR6 := Lib.hid (HR2.out.same (show w6.heap[g2]? = w2.heap[g2]? from (hgrow.block g2 (by simp; omega) (fun e => by have := HNe.out g2 e.symm; omega)).trans (by rw [Below.heap_alloc _ _ _ (by simp; omega), Below.heap_alloc _ _ _ hl2])))
      have HT6 := Lib.hid ht6
      have HB6 := Lib.hid (show Below w.heap.size w w6 from ((HB2.out.alloc HB2.out.size _).alloc (by simp; omega) _).grown hgrow (by simp; omega) (fun q hq => by have := (HOx.out.lt q hq).1; omega))
      clear hown6 hgrow ht6 hat hve
      go_wp2_with fail
      rw [show is.length + 1 = (is ++ [en]).length from by simp]
      refine (sameR_any w6 g2 g6 0 0 cap2 cap6 (is ++ [en]) HR6.out HT6.out (by simp; omega)).mono ?_
      rintro e w7 ⟨rfl, m, rfl⟩
      go_wp2_with fail
      refine (awake2_any _).mono ?_
      rintro e w8 ⟨rfl, hb8⟩
      have HB8 := Lib.hid (blwS (bls_drewN HB6.out m) hb8 (by have := HB6.out.size; exact this))
      clear hb8
      go_wp2
      go_ret
      exact ⟨rfl, HB8.out⟩
end Go.Proofs.Ytbjbmehkcfpahaa
