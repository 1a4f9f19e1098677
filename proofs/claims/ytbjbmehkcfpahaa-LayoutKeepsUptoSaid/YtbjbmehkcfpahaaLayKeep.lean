/- The walk of the law LayoutKeeps: it answers true and leaves what was there. No condition but a bound on the number of tokens. -/
import Derived.Test.YtbjbmehkcfpahaaTsV
import Derived.Test.YtbjbmehkcfpahaaLayPure4
import Derived.BigQuiet
namespace Go.Proofs.Ytbjbmehkcfpahaa
open Go.RowKit Lx
attribute [local go_sem] bt_size bt_get bt_list bt_toList bt_drop bt_take
attribute [local go_sem ↓] Go.wp_at_zero Go.wp_at_succ

/-- At the head of each round of the law's first loop. -/
def KaRel (w : World) (ts : List Rt) (b i : Value) (wr : World) : Prop :=
  ∃ k : Nat, k ≤ ts.length ∧ i = .int .i64 k ∧ b = .bool ((ts.take k).any fun t => t.text == [123]) ∧ (∀ t ∈ ts.take k, t.n = 0) ∧ w = wr
/-- At the head of each round of its second loop. -/
def KbRel (W : World) (o : List Rt) (c m i : Value) (wr : World) : Prop :=
  ∃ (k : Nat) (b : Int), k ≤ o.length ∧ i = .int .i64 k ∧ c = .int .i64 (cntL (o.take k)) ∧ m = .int .i64 b ∧ balL 0 (o.take k) = some b ∧ ∃ n, wr = W.drewN n

set_option maxHeartbeats 4000000 in
set_option maxRecDepth 100000 in
theorem keeps_any (w : World) (v : Value) (ts : List Rt) (h : TsV w v ts) (hn : ts.length ≤ 180000) :
    Calls Try.prog 5 #[v] w fun e w' => e = .returned (.bool true) ∧ Below w.heap.size w w' := by
  obtain ⟨ao, cap, rfl⟩ := tsV_slice h
  have HT := Lib.hid h
  clear h
  go_enter Try.func5, Try.ntmps5
  go_wp2
  go_loopw [3, 4] (fun b i wr => KaRel w ts b i wr) (fun _ i _ => ts.length - (intOf i).toNat)
  case atStart => exact ⟨0, Nat.zero_le _, rfl, rfl, by simp, rfl⟩
  case round =>
    obtain ⟨k, hk, rfl, rfl, hall, rfl⟩ := hrel
    have HA := Lib.hid hall
    clear hall
    by_cases hlt : k < ts.length
    · obtain ⟨b, off, rfl, ha, hb, hc, hm⟩ := tsV_at HT.out (by omega)
      obtain ⟨a0, a1, a2, a3, a4⟩ := ha k ts[k] (by simp [hlt])
      have HTk := Lib.hid (List.take_succ_eq_append_getElem hlt)
      clear ha
      obtain ⟨q, hq⟩ : ∃ q, q = (ts.take k).any fun t => t.text == [123] := ⟨_, rfl⟩
      rw [← hq]
      have HQ := Lib.hid hq
      clear hq
      revert a0 a1 a2 a3 a4 HTk
      generalize ts[k] = t
      intro a0 a1 a2 a3 a4 HTk
      by_cases c0 : t.n = 0
      · cases q with
        | true =>
          go_wp2
          go_roundw
          case rel =>
            refine ⟨k + 1, by omega, by go_num, ?_, ?_, rfl⟩
            · rw [HTk.out, List.any_append, ← HQ.out]; rfl
            · intro x hx
              rw [HTk.out] at hx
              rcases List.mem_append.1 hx with hx | hx
              · exact HA.out x hx
              · simp at hx; rw [hx]; exact c0
          case measure => simp [intOf]; omega
        | false =>
          cases ht : (t.text == [123]) with
          | true =>
            go_wp2
            go_roundw
            case rel =>
              refine ⟨k + 1, by omega, by go_num, ?_, ?_, rfl⟩
              · rw [HTk.out, List.any_append, ← HQ.out]; simp [ht]
              · intro x hx
                rw [HTk.out] at hx
                rcases List.mem_append.1 hx with hx | hx
                · exact HA.out x hx
                · simp at hx; rw [hx]; exact c0
            case measure => simp [intOf]; omega
          | false =>
            go_wp2
            go_roundw
            case rel =>
              refine ⟨k + 1, by omega, by go_num, ?_, ?_, rfl⟩
              · rw [HTk.out, List.any_append, ← HQ.out]; simp [ht]
              · intro x hx
                rw [HTk.out] at hx
                rcases List.mem_append.1 hx with hx | hx
                · exact HA.out x hx
                · simp at hx; rw [hx]; exact c0
            case measure => simp [intOf]; omega
      · clear HTk HA HQ
        go_wp2_with fail
        refine (awake2_any _).mono ?_
        rintro e w3 ⟨rfl, hb3⟩
        have HB3 := Lib.hid hb3
        clear hb3
        go_wp2
        go_ret
        exact ⟨rfl, HB3.out⟩
    · obtain rfl : k = ts.length := by omega
      rw [List.take_of_length_le (Nat.le_refl _)] at HA
      rw [List.take_of_length_le (Nat.le_refl _)]
      obtain ⟨q, hq⟩ : ∃ q, q = ts.any fun t => t.text == [123] := ⟨_, rfl⟩
      rw [← hq]
      have HQ := Lib.hid hq
      clear hq hlt hk
      go_wp2_with fail
      refine (lay_v _ _ ts HT.out (by omega)).mono ?_
      rintro e w2 hp
      unfold LayPost at hp
      cases hly : layL ts with
      | error t =>
        rw [hly] at hp
        obtain ⟨rfl, hb2⟩ := hp
        have HB2 := Lib.hid hb2
        have hw2 := hb2.size
        clear hb2
        unfold dgV
        go_wp2_with fail
        refine (awake2_any _).mono ?_
        rintro e w8 ⟨rfl, hb8⟩
        have HB8 := Lib.hid (blwS (HB2.out.alloc HB2.out.size _) hb8 (by simp; omega))
        clear hb8
        go_wp2
        go_ret
        exact ⟨rfl, HB8.out⟩
      | ok o =>
        rw [hly] at hp
        obtain ⟨v2, rfl, ho2, hb2⟩ := hp
        have hpos := lay_pos hly
        have hol : o.length ≤ 900004 := by have := lay_len5 hly; omega
        have HK := Lib.hid (kept_of ts o HA.out hly)
        obtain ⟨g2, cap2, rfl, hg2, hl2, hc2, hm2, ht2⟩ := rts_form ho2 hpos
        have hw2 := hb2.size
        have HTb := Lib.hid ((HT.out.below hb2).below (below_alloc w2 zeroDg))
        have HR := Lib.hid (show RtAt (w2.alloc zeroDg) g2 0 o from ht2.below (below_alloc _ _) hl2)
        have HB4 := Lib.hid (show Below w.heap.size w (w2.alloc zeroDg) from hb2.alloc hw2 _)
        have hg2w : g2 < (w2.alloc zeroDg).heap.size := by simp; omega
        have hw4 : w.heap.size ≤ (w2.alloc zeroDg).heap.size := by simp; omega
        clear hb2 ht2 ho2 HT HA hly
        unfold dgV
        go_wp2_with fail
        revert HTb HR HB4 hg2w hw4
        unfold zeroDg
        generalize World.alloc w2 _ = W
        intro HTb HR HB4 hg2w hw4
        unfold maxLen at hm2
        go_loopw [7, 8, 9] (fun c m i wr => KbRel W o c m i wr) (fun _ _ i _ => o.length - (intOf i).toNat)
        case atStart => exact ⟨0, 0, Nat.zero_le _, rfl, rfl, rfl, rfl, 0, rfl⟩
        case round =>
          obtain ⟨j, m, hj, rfl, rfl, rfl, hbal, n, rfl⟩ := hrel
          have hmb := bal_le _ _ _ (Int.le_refl 0) hbal
          rw [List.length_take] at hmb
          obtain ⟨hm0, hm1⟩ := hmb
          have hm1 : m ≤ j := by omega
          have HBl := Lib.hid hbal
          clear hbal
          by_cases hlt : j < o.length
          · obtain ⟨a0, a1, a2, a3, a4⟩ := HR.out j o[j] (by simp [hlt])
            have HTk := Lib.hid (List.take_succ_eq_append_getElem hlt)
            have HL := Lib.hid (HK.out.laid j hlt)
            have HE := Lib.hid (HK.out.last j hlt)
            have HM := Lib.hid (HK.out.mine j hlt)
            obtain ⟨m', hm'⟩ := HK.out.bal (j + 1) (by omega)
            rw [HTk.out, bal_app _ _ _ _ HBl.out] at hm'
            have HBl' := Lib.hid (show balL 0 (o.take (j + 1)) = some m' by rw [HTk.out, bal_app _ _ _ _ HBl.out]; exact hm')
            have HCn := Lib.hid (show cntL (o.take (j + 1)) = cntL (o.take j) + (if inpB o[j] then 1 else 0) by rw [HTk.out, cnt_snoc])
            obtain ⟨c, hc⟩ : ∃ c, c = cntL (o.take j) := ⟨_, rfl⟩
            rw [← hc] at HE HM HCn
            rw [← hc]
            clear hc HTk
            obtain ⟨x, hx⟩ : ∃ x, x = o[j] := ⟨_, rfl⟩
            rw [← hx] at a0 a1 a2 a3 a4 HL HE HM HCn hm'
            clear hx
            simp only [Nat.zero_add] at a0 a1 a2 a3 a4
            by_cases hn1 : x.n = 1
            · obtain ⟨k8, htx⟩ := HL.out hn1
              have hib : inpB x = false := by simp [inpB, notIns, hn1]
              rw [hn1] at a2
              rw [k8] at a0
              clear HL HE HM
              rcases htx with htx | htx | htx
              · rw [htx] at a1
                have hmm : m' = m + 1 := by
                  simp [balL, hn1, htx] at hm'
                  exact hm'.symm
                clear hm'
                go_wp2
                go_roundw
                case rel => exact ⟨j + 1, _, by omega, by go_num, by rw [HCn.out, hib]; simp, by rw [hmm], HBl'.out, n, rfl⟩
                case measure => simp [intOf]; omega
              · rw [htx] at a1
                have hmm : m' = m - 1 ∧ 0 ≤ m - 1 := by
                  simp [balL, hn1, htx] at hm'
                  omega
                clear hm'
                have hm2 := hmm.2
                go_wp2
                go_roundw
                case rel => exact ⟨j + 1, _, by omega, by go_num, by rw [HCn.out, hib]; simp, by rw [hmm.1], HBl'.out, n, rfl⟩
                case measure => simp [intOf]; omega
              · rw [htx] at a1
                have hmm : m' = m := by
                  simp [balL, hn1, htx] at hm'
                  exact hm'.symm
                clear hm'
                go_wp2
                go_roundw
                case rel => exact ⟨j + 1, _, by omega, by go_num, by rw [HCn.out, hib]; simp, by rw [hmm], HBl'.out, n, rfl⟩
                case measure => simp [intOf]; omega
            · have hib9 : inpB x = !(x.kind == 9) := by simp [inpB, notIns, hn1]
              have hm'' : m' = m := by
                simp [balL, hn1] at hm'
                exact hm'.symm
              subst hm''
              clear hm' HL
              by_cases h9 : x.kind = 9
              · obtain ⟨hje, hte⟩ := HE.out hn1 h9
                have hib : inpB x = false := by rw [hib9, h9]; rfl
                rw [h9] at a0
                have hq0 : (j : Int) = (o.length : Int) - 1 := by omega
                have hq2 : ((j : Int) != (o.length : Int) - 1) = false := by simpa using hq0
                clear HE HM hib9 hq0
                have HJe := Lib.hid hje
                clear hje
                by_cases hct : c < ts.length
                · obtain ⟨b, off, rfl, ha, hb, hcc, hmm⟩ := tsV_at HTb.out (by omega)
                  have hx : ts[c] = x := hte _ (List.getElem?_eq_getElem hct)
                  obtain ⟨b0, b1, b2, b3, b4⟩ := ha c x (by rw [← hx]; exact List.getElem?_eq_getElem hct)
                  rw [h9] at b0
                  have hq3 : (c : Int) < (ts.length : Int) := by omega
                  have hq4 : decide ((c : Int) < (ts.length : Int)) = true := by simpa using hq3
                  clear ha hte hx
                  go_wp2
                  go_quiet (fail)
                  go_wp2
                  go_roundw
                  case rel => exact ⟨j + 1, _, by omega, by go_num, by rw [HCn.out, hib]; simp, rfl, HBl'.out, _, rfl⟩
                  case measure => simp [intOf]; omega
                · have hq4 : decide ((c : Int) < (ts.length : Int)) = false := by simp; omega
                  clear hte
                  go_wp2
                  go_quiet (fail)
                  go_wp2
                  go_roundw
                  case rel => exact ⟨j + 1, _, by omega, by go_num, by rw [HCn.out, hib]; simp, rfl, HBl'.out, _, rfl⟩
                  case measure => simp [intOf]; omega
              · have hts := HM.out hn1 h9
                have hib : inpB x = true := by rw [hib9]; simp [h9]
                have hct : c < ts.length := (List.getElem?_eq_some_iff.1 hts).1
                obtain ⟨b, off, rfl, ha, hb, hcc, hmm⟩ := tsV_at HTb.out (by omega)
                obtain ⟨b0, b1, b2, b3, b4⟩ := ha c x hts
                have hq3 : (c : Int) < (ts.length : Int) := by omega
                have hq4 : decide ((ts.length : Int) ≤ (c : Int)) = false := by simp; omega
                have hq5 : decide ((c : Int) ≥ (ts.length : Int)) = false := by simp; omega
                have hq6 : decide (ts.length ≤ c) = false := by simp; omega
                have hk9 : (x.kind == 9) = false := by simpa using h9
                clear ha hts HE HM hib9 hct
                go_wp2
                go_quiet (fail)
                go_wp2
                go_roundw
                case rel => exact ⟨j + 1, _, by omega, by go_num, by rw [HCn.out, hib]; go_num, rfl, HBl'.out, _, rfl⟩
                case measure => simp [intOf]; omega
          · obtain rfl : j = o.length := by omega
            rw [List.take_of_length_le (Nat.le_refl _)] at HBl
            rw [List.take_of_length_le (Nat.le_refl _)]
            obtain ⟨he0, he9⟩ := HK.out.ends
            have HAg := Lib.hid HK.out.again
            have HRs := Lib.hid HK.out.rest
            have HAl := Lib.hid (HK.out.all m HBl.out)
            obtain ⟨L, hL⟩ : ∃ L, o.length = L + 1 := ⟨o.length - 1, by omega⟩
            obtain ⟨a0, a1, a2, a3, a4⟩ := HR.out L (o[o.length - 1]) (by simp [hL])
            rw [he9] at a0
            simp only [Nat.zero_add] at a0
            have hR' : RtAt (W.drewN n) g2 0 o := HR.out.same rfl
            have HLay := Lib.hid (lay_v (W.drewN n) (.slice (some ⟨g2, 0, none⟩) o.length cap2) o (.inr ⟨hpos, g2, 0, cap2, rfl, hR', hg2w, hc2, by unfold maxLen; exact hm2⟩) (by omega))
            obtain ⟨c, hc⟩ : ∃ c, c = cntL o := ⟨_, rfl⟩
            rw [← hc] at HRs
            rw [← hc]
            rw [hL] at HLay hc2
            rw [hL]
            clear he0 he9 a1 a2 a3 a4 hc hR' HK
            by_cases hct : c < ts.length
            · obtain ⟨b, off, rfl, ha, hb, hcc, hmm⟩ := tsV_at HTb.out (by omega)
              obtain ⟨b0, _, _, _, _⟩ := ha c ts[c] (List.getElem?_eq_getElem hct)
              rw [HRs.out _ (List.getElem?_eq_getElem hct)] at b0
              have hq3 : (c : Int) < (ts.length : Int) := by omega
              clear ha
              cases q with
              | true =>
                go_wp2_with fail
                refine HLay.out.mono ?_
                rintro e w5 hp
                unfold LayPost at hp
                rw [HAg.out] at hp
                obtain ⟨v5, rfl, ho5, hb5⟩ := hp
                obtain ⟨g5, cap5, rfl, hg5, hl5, hc5, hm5, ht5⟩ := rts_form ho5 hpos
                have hw5 : W.heap.size ≤ w5.heap.size := hb5.size
                have HB5 := Lib.hid (blwS (bls_drewN HB4.out n) hb5 hw4)
                have HSm := Lib.hid (sameT_any (w5.alloc zeroDg) g2 g5 0 0 cap2 cap5 o (((HR.out.same rfl : RtAt (W.drewN n) g2 0 o).below hb5 hg2w).below (below_alloc _ _) (by omega)) (ht5.below (below_alloc _ _) hl5) (by omega))
                rw [hL] at HSm
                rw [hL]
                clear hb5 ht5 ho5 HLay HAg
                unfold dgV
                go_wp2_with fail
                refine HSm.out.mono ?_
                rintro e w7 ⟨rfl, m7, rfl⟩
                go_wp2_with fail
                refine (awake2_any _).mono ?_
                rintro e w8 ⟨rfl, hb8⟩
                have HB8 := Lib.hid (blwS (bls_drewN (HB5.out.alloc HB5.out.size zeroDg) m7) hb8 (show w.heap.size ≤ (w5.alloc zeroDg).heap.size by simp; omega))
                clear hb8
                go_wp2
                go_ret
                exact ⟨rfl, HB8.out⟩
              | false =>
                have hmz : m = 0 := HAl.out HQ.out.symm
                subst hmz
                go_wp2_with fail
                refine HLay.out.mono ?_
                rintro e w5 hp
                unfold LayPost at hp
                rw [HAg.out] at hp
                obtain ⟨v5, rfl, ho5, hb5⟩ := hp
                obtain ⟨g5, cap5, rfl, hg5, hl5, hc5, hm5, ht5⟩ := rts_form ho5 hpos
                have hw5 : W.heap.size ≤ w5.heap.size := hb5.size
                have HB5 := Lib.hid (blwS (bls_drewN HB4.out n) hb5 hw4)
                have HSm := Lib.hid (sameT_any (w5.alloc zeroDg) g2 g5 0 0 cap2 cap5 o (((HR.out.same rfl : RtAt (W.drewN n) g2 0 o).below hb5 hg2w).below (below_alloc _ _) (by omega)) (ht5.below (below_alloc _ _) hl5) (by omega))
                rw [hL] at HSm
                rw [hL]
                clear hb5 ht5 ho5 HLay HAg
                unfold dgV
                go_wp2_with fail
                refine HSm.out.mono ?_
                rintro e w7 ⟨rfl, m7, rfl⟩
                go_wp2_with fail
                refine (awake2_any _).mono ?_
                rintro e w8 ⟨rfl, hb8⟩
                have HB8 := Lib.hid (blwS (bls_drewN (HB5.out.alloc HB5.out.size zeroDg) m7) hb8 (show w.heap.size ≤ (w5.alloc zeroDg).heap.size by simp; omega))
                clear hb8
                go_wp2
                go_ret
                exact ⟨rfl, HB8.out⟩
            · have hq3 : ¬ (c : Int) < (ts.length : Int) := by omega
              have hq4 : decide ((c : Int) < (ts.length : Int)) = false := by simp; omega
              cases q with
              | true =>
                go_wp2_with fail
                refine HLay.out.mono ?_
                rintro e w5 hp
                unfold LayPost at hp
                rw [HAg.out] at hp
                obtain ⟨v5, rfl, ho5, hb5⟩ := hp
                obtain ⟨g5, cap5, rfl, hg5, hl5, hc5, hm5, ht5⟩ := rts_form ho5 hpos
                have hw5 : W.heap.size ≤ w5.heap.size := hb5.size
                have HB5 := Lib.hid (blwS (bls_drewN HB4.out n) hb5 hw4)
                have HSm := Lib.hid (sameT_any (w5.alloc zeroDg) g2 g5 0 0 cap2 cap5 o (((HR.out.same rfl : RtAt (W.drewN n) g2 0 o).below hb5 hg2w).below (below_alloc _ _) (by omega)) (ht5.below (below_alloc _ _) hl5) (by omega))
                rw [hL] at HSm
                rw [hL]
                clear hb5 ht5 ho5 HLay HAg
                unfold dgV
                go_wp2_with fail
                refine HSm.out.mono ?_
                rintro e w7 ⟨rfl, m7, rfl⟩
                go_wp2_with fail
                refine (awake2_any _).mono ?_
                rintro e w8 ⟨rfl, hb8⟩
                have HB8 := Lib.hid (blwS (bls_drewN (HB5.out.alloc HB5.out.size zeroDg) m7) hb8 (show w.heap.size ≤ (w5.alloc zeroDg).heap.size by simp; omega))
                clear hb8
                go_wp2
                go_ret
                exact ⟨rfl, HB8.out⟩
              | false =>
                have hmz : m = 0 := HAl.out HQ.out.symm
                subst hmz
                go_wp2_with fail
                refine HLay.out.mono ?_
                rintro e w5 hp
                unfold LayPost at hp
                rw [HAg.out] at hp
                obtain ⟨v5, rfl, ho5, hb5⟩ := hp
                obtain ⟨g5, cap5, rfl, hg5, hl5, hc5, hm5, ht5⟩ := rts_form ho5 hpos
                have hw5 : W.heap.size ≤ w5.heap.size := hb5.size
                have HB5 := Lib.hid (blwS (bls_drewN HB4.out n) hb5 hw4)
                have HSm := Lib.hid (sameT_any (w5.alloc zeroDg) g2 g5 0 0 cap2 cap5 o (((HR.out.same rfl : RtAt (W.drewN n) g2 0 o).below hb5 hg2w).below (below_alloc _ _) (by omega)) (ht5.below (below_alloc _ _) hl5) (by omega))
                rw [hL] at HSm
                rw [hL]
                clear hb5 ht5 ho5 HLay HAg
                unfold dgV
                go_wp2_with fail
                refine HSm.out.mono ?_
                rintro e w7 ⟨rfl, m7, rfl⟩
                go_wp2_with fail
                refine (awake2_any _).mono ?_
                rintro e w8 ⟨rfl, hb8⟩
                have HB8 := Lib.hid (blwS (bls_drewN (HB5.out.alloc HB5.out.size zeroDg) m7) hb8 (show w.heap.size ≤ (w5.alloc zeroDg).heap.size by simp; omega))
                clear hb8
                go_wp2
                go_ret
                exact ⟨rfl, HB8.out⟩
end Go.Proofs.Ytbjbmehkcfpahaa
