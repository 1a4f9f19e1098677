/- The walk of the law LayoutShifts: it answers true and leaves what was there. No condition but a bound on the number of tokens. -/
import Derived.Test.YtbjbmehkcfpahaaTsV
import Derived.Test.YtbjbmehkcfpahaaLayPure3
namespace Go.Proofs.Ytbjbmehkcfpahaa
open Go.RowKit Lx
attribute [local go_sem] bt_size bt_get bt_list bt_toList bt_drop bt_take
attribute [local go_sem ↓] Go.wp_at_zero Go.wp_at_succ

/-- Shifted tokens are laid shifted; without tokens the end token stands where it stood. -/
theorem lay_shiftN (b : Int) (hb : 0 ≤ b) (ts : List Rt) (hc : ∀ t ∈ ts, 1 ≤ t.col) :
    layL (ts.map (shR' b)) = match layL ts with | .error t => .error (shR' b t) | .ok o => .ok (o.map (shR' (if ts.length = 0 then 0 else b))) := by
  by_cases h0 : ts = []
  · subst h0; rfl
  · have hl : ¬ ts.length = 0 := fun h => h0 (List.eq_nil_of_length_eq_zero h)
    rw [if_neg hl]
    exact lay_shift b hb ts h0 hc

/-- At the head of each round of the law's first loop. -/
def ShRel (w : World) (ts : List Rt) (d : Int) (v i : Value) (wr : World) : Prop :=
  ∃ k : Nat, k ≤ ts.length ∧ i = .int .i64 k ∧ (∀ t ∈ ts.take k, 1 ≤ t.col ∧ t.col ≤ 1099511627776) ∧
    wr.ownsRow w.heap.size 33 5 v k (rtsCells ((ts.take k).map (shR' d))) ∧ Below w.heap.size w wr

set_option maxHeartbeats 4000000 in
set_option maxRecDepth 100000 in
theorem shifts_main (w : World) (v : Value) (ts : List Rt) (d : Int) (h : TsV w v ts) (hn : ts.length ≤ 200000) (hd0 : 0 ≤ d) (hd1 : d ≤ 1099511627776) :
    Calls Try.prog 6 #[v, .int .i64 d] w fun e w' => e = .returned (.bool true) ∧ Below w.heap.size w w' := by
  obtain ⟨i0, hi, hz0, hz1, hz2i⟩ := info_parts info_rt
  obtain ⟨ao, cap, rfl⟩ := tsV_slice h
  have HT := Lib.hid h
  clear h
  go_enter Try.func6, Try.ntmps6
  go_wp2
  go_loopw [5, 6] (fun v i wr => ShRel w ts d v i wr) (fun _ i _ => ts.length - (intOf i).toNat)
  case atStart => exact ⟨0, Nat.zero_le _, rfl, by simp, World.ownsRow_nil _ _ _ _, Below.refl _ _⟩
  case round =>
    obtain ⟨k, hk, rfl, hall, hown, hbel⟩ := hrel
    have HA := Lib.hid hall
    have HO := Lib.hid hown
    have HB := Lib.hid hbel
    have hwr := hbel.size
    clear hall hown hbel
    by_cases hlt : k < ts.length
    · obtain ⟨b, off, rfl, ha, hb, hc, hm⟩ := tsV_at HT.out (by omega)
      obtain ⟨a0, a1, a2, a3, a4⟩ := (ha.below HB.out hb) k ts[k] (by simp [hlt])
      have hbr : b < wr.heap.size := by omega
      have HTk := Lib.hid (List.take_succ_eq_append_getElem hlt)
      clear ha
      revert a0 a1 a2 a3 a4 HTk
      generalize ts[k] = t
      intro a0 a1 a2 a3 a4 HTk
      by_cases c1 : t.col < 1
      · clear HO HA HTk
        go_wp2_with fail
        refine (awake2_any _).mono ?_
        rintro e w3 ⟨rfl, hb3⟩
        have HB3 := Lib.hid (blwS (HB.out.alloc HB.out.size _) hb3 (by simp; omega))
        clear hb3
        go_wp2
        go_ret
        exact ⟨rfl, HB3.out⟩
      · by_cases c2 : t.col > 1099511627776
        · clear HO HA HTk
          go_wp2_with fail
          refine (awake2_any _).mono ?_
          rintro e w3 ⟨rfl, hb3⟩
          have HB3 := Lib.hid (blwS (HB.out.alloc HB.out.size _) hb3 (by simp; omega))
          clear hb3
          go_wp2
          go_ret
          exact ⟨rfl, HB3.out⟩
        · have HC := Lib.hid (show 1 ≤ t.col ∧ t.col ≤ 1099511627776 from ⟨by omega, by omega⟩)
          go_wp2_with (at_builtin; refine wpList_append_lies _ rfl _ _ _ rfl w.heap.size 33 i0 _ 5 48 under_rts hi hz0 hz1 hz2i rfl (by decide) u5 k (rtsCells ((ts.take k).map (shR' d))) rfl ((HO.out.alloc _).alloc _) ⟨wr.heap.size + 1, 0, none⟩ 1 1 (rtCells (shR' d t)) rfl rfl (rt_newsS wr _ (shR' d t)) (rt_one _) (by omega) (by simp [maxLen]; omega) (by omega) (by simp; omega) _ rfl ?_; intro g6 cap6 w6 hown6 hgrow hat hlt6)
          have HO6 := Lib.hid hown6
          have HB6 := Lib.hid (show Below w.heap.size w w6 from ((HB.out.alloc HB.out.size _).alloc (by simp; omega) _).grown hgrow (by simp; omega) (fun q hq => (HO.out.lt q hq).1))
          clear hown6 hgrow hat
          go_wp2
          go_roundw
          case rel =>
            refine ⟨k + 1, by omega, by go_num, ?_, ?_, HB6.out⟩
            · intro x hx
              rw [HTk.out] at hx
              rcases List.mem_append.1 hx with hx | hx
              · exact HA.out x hx
              · simp at hx; rw [hx]; exact HC.out
            · rw [HTk.out, List.map_append, List.map_cons, List.map_nil, rtsCells_snoc]
              exact HO6.out
          case measure => simp [intOf]; omega
    · obtain rfl : k = ts.length := by omega
      rw [List.take_of_length_le (Nat.le_refl _)] at HA HO
      clear hlt hk
      go_wp2_with fail
      refine (lay_v wr _ ts (HT.out.below HB.out) (by omega)).mono ?_
      rintro e w2 hp
      have HSh := Lib.hid (lay_shiftN d hd0 ts (fun t ht => (HA.out t ht).1))
      have HCol := Lib.hid (lay_cols ts)
      unfold LayPost at hp
      cases hly : layL ts with
      | error t =>
        rw [hly] at hp HSh HCol
        obtain ⟨rfl, hb2⟩ := hp
        have h0 : ts ≠ [] := fun h => by rw [h] at hly; cases hly
        obtain ⟨s, hs, hcs⟩ := HCol.out h0
        have hcb := HA.out s hs
        rw [← hcs] at hcb
        obtain ⟨c1, c2⟩ := hcb
        have HO2 := Lib.hid (own_same HO.out fun q hq => hb2.block q (HO.out.lt q hq).2)
        have HB2 := Lib.hid (blwS HB.out hb2 hwr)
        have hw2 : wr.heap.size ≤ w2.heap.size := hb2.size
        have hl0 : 0 < ts.length := List.length_pos_iff.2 h0
        clear hb2 hs hcs HCol
        unfold dgV
        go_wp2_with fail
        refine (lay_v _ _ (ts.map (shR' d)) (tsV_own (HO2.out.alloc _) (by simp)) (by simp; omega)).mono ?_
        rintro e w3 hp
        unfold LayPost at hp
        rw [HSh.out] at hp
        obtain ⟨rfl, hb3⟩ := hp
        have HB3 := Lib.hid (blwS (HB2.out.alloc HB2.out.size _) hb3 (by simp; omega))
        have hw3 : w2.heap.size < w3.heap.size := by have := hb3.size; simp at this; omega
        have hDg : w3.heap[w2.heap.size]? = some (.cells #[.string ⟨#[]⟩, .int .i64 t.line, .int .i64 t.col, .int .i64 20] 25) := (hb3.block _ (by simp)).trans (heap_alloc_new w2 _)
        have y1 : w3.cell? ⟨w2.heap.size, 1, none⟩ = some (.int .i64 t.line) := by simp [World.cell?, hDg]
        have y2 : w3.cell? ⟨w2.heap.size, 2, none⟩ = some (.int .i64 t.col) := by simp [World.cell?, hDg]
        have y3 : w3.cell? ⟨w2.heap.size, 3, none⟩ = some (.int .i64 20) := by simp [World.cell?, hDg]
        clear hb3 hDg HSh
        unfold dgV shR'
        go_wp2_with fail
        refine wp_loop_rounds 1 ?_
        rw [rounds_succ]
        go_wp2_with fail
        refine (awake2_any _).mono ?_
        rintro e w8 ⟨rfl, hb8⟩
        have HB8 := Lib.hid (blwS (HB3.out.alloc HB3.out.size _) hb8 (by simp; omega))
        clear hb8
        go_wp2
        go_ret
        exact ⟨rfl, HB8.out⟩
      | ok o =>
        rw [hly] at hp HSh HCol
        obtain ⟨v2, rfl, ho2, hb2⟩ := hp
        have hpos := lay_pos hly
        have HO2 := Lib.hid (own_same HO.out fun q hq => hb2.block q (HO.out.lt q hq).2)
        have HB2 := Lib.hid (blwS HB.out hb2 hwr)
        have hw2 : wr.heap.size ≤ w2.heap.size := hb2.size
        obtain ⟨g2, cap2, rfl, hg2, hl2, hc2, hm2, ht2⟩ := rts_form ho2 hpos
        have HR2 := Lib.hid ht2
        obtain ⟨dc, hdc⟩ : ∃ dc, dc = (if ts.length = 0 then 0 else d) := ⟨_, rfl⟩
        simp only at HSh HCol
        rw [← hdc] at HSh
        have HCb := Lib.hid (show ts.length ≠ 0 → ∀ x ∈ o, 1 ≤ x.col ∧ x.col ≤ 1099511627776 from fun hl x hx => by
          obtain ⟨s, hs, he⟩ := HCol.out (fun h => hl (by rw [h]; rfl)) x hx
          rw [he]; exact HA.out s hs)
        clear hb2 ht2 ho2 HCol
        unfold dgV
        go_wp2_with fail
        refine (lay_v _ _ (ts.map (shR' d)) (tsV_own (HO2.out.alloc _) (by simp)) (by simp; omega)).mono ?_
        rintro e w3 hp
        unfold LayPost at hp
        rw [HSh.out] at hp
        obtain ⟨v3, rfl, ho3, hb3⟩ := hp
        have HB3 := Lib.hid (blwS (HB2.out.alloc HB2.out.size _) hb3 (by simp; omega))
        have hw3 : w2.heap.size < w3.heap.size := by have := hb3.size; simp at this; omega
        have hDg : w3.heap[w2.heap.size]? = some (.cells #[.string ⟨#[]⟩, .int .i64 0, .int .i64 0, .int .i64 0] 25) := (hb3.block _ (by simp)).trans (heap_alloc_new w2 _)
        have y1 : w3.cell? ⟨w2.heap.size, 1, none⟩ = some (.int .i64 0) := by simp [World.cell?, hDg]
        have y2 : w3.cell? ⟨w2.heap.size, 2, none⟩ = some (.int .i64 0) := by simp [World.cell?, hDg]
        have y3 : w3.cell? ⟨w2.heap.size, 3, none⟩ = some (.int .i64 0) := by simp [World.cell?, hDg]
        obtain ⟨g3, cap3, rfl, hg3, hl3, hc3, hm3, ht3⟩ := rts_form ho3 (by simpa using hpos)
        simp only [List.length_map] at hc3
        have HR3 := Lib.hid (show RtAt (w3.alloc zeroDg) g3 0 (o.map (shR' dc)) from ht3.below (below_alloc _ _) hl3)
        have HR2b := Lib.hid (show RtAt (w3.alloc zeroDg) g2 0 o from (HR2.out.below (blw2 (below_alloc _ _) hb3) hl2).below (below_alloc _ _) (by omega))
        have HB4 := Lib.hid (HB3.out.alloc HB3.out.size zeroDg)
        have hg3w : g3 < (w3.alloc zeroDg).heap.size := by simp; omega
        have hg2w : g2 < (w3.alloc zeroDg).heap.size := by simp; omega
        have hw4 : w.heap.size ≤ (w3.alloc zeroDg).heap.size := by simp; omega
        clear hb3 hDg HSh ht3 ho3 HR2 HO2 HO HB HB2 HB3
        unfold dgV
        rw [List.length_map]
        go_wp2_with fail
        revert HR3 HR2b HB4 hg3w hg2w hw4
        unfold zeroDg
        generalize World.alloc w3 _ = W
        intro HR3 HR2b HB4 hg3w hg2w hw4
        unfold maxLen at hm2 hm3
        go_loopw [13] (fun i wr => ∃ k : Nat, k ≤ o.length ∧ i = .int .i64 k ∧ Below W.heap.size W wr) (fun i _ => o.length - (intOf i).toNat)
        case atStart => exact ⟨0, Nat.zero_le _, rfl, Below.refl _ _⟩
        case round =>
          obtain ⟨j, hj, rfl, hbel⟩ := hrel
          have HBr := Lib.hid hbel
          have hwz := hbel.size
          clear hbel
          by_cases hlt : j < o.length
          · obtain ⟨a0, a1, a2, a3, a4⟩ := (HR2b.out.below HBr.out hg2w) j o[j] (by simp [hlt])
            obtain ⟨b0, b1, b2, b3, b4⟩ := (HR3.out.below HBr.out hg3w) j (shR' dc o[j]) (by simp [hlt])
            have hg2r : g2 < wr.heap.size := by omega
            have hg3r : g3 < wr.heap.size := by omega
            have hcx := fun hl => HCb.out hl o[j] (List.getElem_mem hlt)
            revert a0 a1 a2 a3 a4 b0 b1 b2 b3 b4 hcx
            generalize o[j] = x
            unfold shR'
            intro a0 a1 a2 a3 a4 b0 b1 b2 b3 b4 hcx
            simp only [Nat.zero_add] at a0 a1 a2 a3 a4 b0 b1 b2 b3 b4
            by_cases hl0 : ts.length = 0
            · rw [if_pos hl0] at hdc
              subst hdc
              simp only [Int.add_zero] at b4
              have hq : ((ts.length : Int) == 0) = true := by rw [hl0]; rfl
              clear hcx
              go_wp2
              go_quiet (fail)
              go_wp2
              go_roundw
              case rel => exact ⟨j + 1, by omega, by go_num, bls_drewN (HBr.out.alloc HBr.out.size _) _⟩
              case measure => simp [intOf]; omega
            · rw [if_neg hl0] at hdc
              subst hdc
              obtain ⟨c1, c2⟩ := hcx hl0
              have hq : ((ts.length : Int) == 0) = false := by simpa using hl0
              clear hcx
              go_wp2
              go_quiet (fail)
              go_wp2
              go_roundw
              case rel => exact ⟨j + 1, by omega, by go_num, bls_drewN (HBr.out.alloc HBr.out.size _) _⟩
              case measure => simp [intOf]; omega
          · obtain rfl : j = o.length := by omega
            go_wp2_with fail
            refine (awake2_any _).mono ?_
            rintro e w8 ⟨rfl, hb8⟩
            have HB8 := Lib.hid (blwS HB4.out (blw2 HBr.out hb8) hw4)
            clear hb8
            go_wp2
            go_ret
            exact ⟨rfl, HB8.out⟩

set_option maxHeartbeats 400000 in
set_option maxRecDepth 100000 in
theorem shifts_low (w : World) (v : Value) (d : Int) (hd : d < 0) :
    Calls Try.prog 6 #[v, .int .i64 d] w fun e w' => e = .returned (.bool true) ∧ Below w.heap.size w w' := by
  go_enter Try.func6, Try.ntmps6
  go_wp2_with fail
  refine (awake2_any _).mono ?_
  rintro e w3 ⟨rfl, hb3⟩
  have HB3 := Lib.hid hb3
  clear hb3
  go_wp2
  go_ret
  exact ⟨rfl, HB3.out⟩
set_option maxHeartbeats 400000 in
set_option maxRecDepth 100000 in
theorem shifts_high (w : World) (v : Value) (d : Int) (hd : ¬ d < 0) (hd1 : 1099511627776 < d) :
    Calls Try.prog 6 #[v, .int .i64 d] w fun e w' => e = .returned (.bool true) ∧ Below w.heap.size w w' := by
  go_enter Try.func6, Try.ntmps6
  go_wp2_with fail
  refine (awake2_any _).mono ?_
  rintro e w3 ⟨rfl, hb3⟩
  have HB3 := Lib.hid hb3
  clear hb3
  go_wp2
  go_ret
  exact ⟨rfl, HB3.out⟩
theorem shifts_any (w : World) (v : Value) (ts : List Rt) (h : TsV w v ts) (hn : ts.length ≤ 200000) (d : Int) :
    Calls Try.prog 6 #[v, .int .i64 d] w fun e w' => e = .returned (.bool true) ∧ Below w.heap.size w w' := by
  by_cases h1 : d < 0
  · exact shifts_low w v d h1
  · by_cases h2 : 1099511627776 < d
    · exact shifts_high w v d h1 h2
    · exact shifts_main w v ts d h hn (by omega) (by omega)
end Go.Proofs.Ytbjbmehkcfpahaa
