/- The contract of occur.Live where the chapter's three binds and the name a are handed in. No condition. -/
import Derived.Test.YtfcogjlojfcfkaaGreatNP
import Derived.Sort.OwnSortedInts
import Derived.StillTail
import Derived.StillTactics
import Derived.WalkKit
section
namespace Go.Proofs.YtfcogjlojfcfkaaGreat
open Go.RowKit Ex0 Go.Maps Go.Sort Go.Shelf
attribute [local go_sem] bt_size bt_list bt_toList Oper.semAt_some

theorem hp_at {W : World} {o : Obj} {b : Nat} (h : W.heap[b]? = some o) (z : Obj) : (W.alloc z).heap[b]? = some o := (Below.heap_alloc W z b (Array.getElem?_eq_some_iff.1 h).1).trans h
theorem hp_nw (W : World) (z : Obj) {b : Nat} (hb : W.heap.size = b) : (W.alloc z).heap[b]? = some z := hb ▸ World.alloc_heap_new W z
/-- The blocks that are there where the range begins. -/
structure LsAt (w W1 : World) (rb : Nat) : Prop where
  size : W1.heap.size = w.heap.size + 1 + 1 + 1 + 1 + 1
  box : BndAt W1 (w.heap.size + 1) rb
  bx : BndAt W1 (w.heap.size + 1 + 1 + 1 + 1) rb
  map : W1.heap[w.heap.size + 1 + 1]? = some (.map #[] 0)
  cAt : W1.heap[w.heap.size + 1 + 1 + 1]? = some (.cells #[.map (some (w.heap.size + 1 + 1))] 63 (0, 0))
  ex : W1.heap[w.heap.size]? = some (exBox 1 [97] 0 0 (.slice none 0 0) (.slice none 0 0) (.slice none 0 0) (.slice none 0 0))
  bel : Below w.heap.size w W1
theorem live_start {w W1 : World} {rb : Nat} (hr : w.heap[rb]? = some (.cells bnds 38 (0, 0))) (hW1 : W1 = ((((w.alloc (exBox 1 [97] 0 0 (.slice none 0 0) (.slice none 0 0) (.slice none 0 0) (.slice none 0 0))).alloc (.cells #[.slice (some ⟨rb, 0, none⟩) 3 3] 24)).alloc (.map #[] 0)).alloc (.cells #[.map (some (w.heap.size + 1 + 1))] 63)).alloc (.cells #[.slice (some ⟨rb, 0, none⟩) 3 3] 24)) : LsAt w W1 rb := by
  subst hW1
  have hb := fun a b c d e => hp_at (hp_at (hp_at (hp_at (hp_at hr a) b) c) d) e
  exact ⟨by simp, ⟨hp_at (hp_at (hp_at (hp_nw _ _ (by simp)) _) _) _, hb _ _ _ _ _⟩, ⟨hp_nw _ _ (by simp), hb _ _ _ _ _⟩, hp_at (hp_at (hp_nw _ _ (by simp)) _) _, hp_at (hp_nw _ _ (by simp)) _, hp_at (hp_at (hp_at (hp_at (hp_nw _ _ rfl) _) _) _) _,
    ((((below_alloc' _ _).alloc (by simp) _).alloc (by simp <;> omega) _).alloc (by simp <;> omega) _).alloc (by simp <;> omega) _⟩

theorem info_bool1 : (Tryz.prog.info? 4).map (fun i => (i.zero, i.size, i.bytes)) = some (some (.bool false), 1, 1) := by kernel_rfl
theorem make_bool3 (W : World) : (Instr.makeSlice 67 (.int .i64 3) (.int .i64 3)).run Tryz.prog W = .ok (.slice (some ⟨W.heap.size, 0, none⟩) 3 3) (W.alloc (.cells #[.bool false, .bool false, .bool false] 4)) := by
  obtain ⟨i0, hi, hz0, hz1, hz2⟩ := info_of info_bool1
  have h := run_make (P := Tryz.prog) W 67 4 i0 _ (by kernel_rfl) hi hz0 .i64 .i64 3 3 (by decide) (by decide) (by rw [hz2]; decide) (by decide)
  rw [hz1] at h
  have e : madeCells (Value.bool false).cells (Int.toNat 3 * 1) = #[.bool false, .bool false, .bool false] := by kernel_rfl
  rw [e] at h
  exact h

set_option maxHeartbeats 4000000 in
set_option maxRecDepth 100000 in
theorem live_c (w : World) (rb : Nat) (hr : w.heap[rb]? = some (.cells bnds 38 (0, 0))) :
    Calls Tryz.prog 14 #[exV 1 [97] 0 0 (.slice none 0 0) (.slice none 0 0) (.slice none 0 0) (.slice none 0 0), .slice (some ⟨rb, 0, none⟩) 3 3] w fun e w' =>
      ∃ g c, e = .returned (.slice (some ⟨g, 0, none⟩) 2 c) ∧ w'.cell? ⟨g, 0, none⟩ = some (.int .i64 0) ∧ w'.cell? ⟨g, 1, none⟩ = some (.int .i64 1) ∧ 2 ≤ c ∧ c ≤ maxLen ∧ Below w.heap.size w w' := by
  have hmx : Tryz.prog.follows .mixedOrders = true := by kernel_rfl
  have hmm := @run_makeMap Tryz.prog
  have hrl : rb < w.heap.size := (Array.getElem?_eq_some_iff.1 hr).1
  have HR := Lib.hid hr
  clear hr
  unfold exV
  refine (callsIn_wide (n := 4)).1 (callsIn_of_wp_marks Tryz.func14 rfl trivial (wpIn_wide.2 ?_) rfl)
  simp only [Tryz.ntmps14, List.size_toArray, List.length_cons, List.length_nil, Nat.reduceAdd, Nat.reduceSub, Array.replicate_succ, Array.replicate_zero, List.push_toArray, List.append_toArray, List.nil_append, List.cons_append]
  go_wp2_with fail
  go_at_call 23
  refine (backward_c _ _ _ _).mono ?_
  rintro e W1 ⟨rfl, hW1⟩
  have HS := Lib.hid (live_start HR.out hW1)
  go_wp2_with fail
  rw [← hW1]
  clear hW1
  have hsz := HS.out.size
  apply range_st (gf := 45) (lb := #[.pointer (some ⟨w.heap.size + 1 + 1 + 1 + 1, 0, none⟩)]) (encs := bndE) (J := FillAt W1 (w.heap.size + 1 + 1)) (ok := fun n i => n + i = 2) (nx := fun n _ n' => n' = n + 1) (done := fun n => n = 3) (s0 := 0)
  case hg => rfl
  case eg => exact enters_of Tryz.func45 (by kernel_rfl) rfl
  case hps => intro _; rfl
  case hJ => exact FillAt.own (by omega)
  case h0 => exact ⟨⟨rfl, rfl, rfl, Nat.le_refl _, fun _ _ _ => rfl⟩, ⟨#[], 0, HS.out.map, ⟨by simp, MapKept.stamped_empty 0, by simp⟩, Nat.le_refl _, rfl⟩⟩
  case hseq =>
    intro l K W2 hK hW2 hj hk hY
    exact back_iter (w.heap.size + 1 + 1 + 1 + 1) rb _ K l W2 (fun n W h => by
      have hq := HS.out.bx
      have hl := (Array.getElem?_eq_some_iff.1 hq.row).1
      exact ⟨(h.1.block _ (by omega) (by simp <;> omega)).trans hq.box, (h.1.block _ hl (by simp; omega)).trans hq.row⟩) hj hk (fun n i W h1 h2 h3 => hY n i W h1 h2 h3)
  case hassign =>
    intro l y W K hK
    simp only [bndE]
    gi_wp2
    exact hK
  case hbody =>
    intro l n i W hj hni
    have HJ := Lib.hid hj
    have hq := HS.out.box
    have hl := (Array.getElem?_eq_some_iff.1 hq.row).1
    have e1 := cell_of ((hj.1.block _ (by omega) (by simp <;> omega)).trans hq.box) 0 _ rfl
    have e2 := cell_of ((hj.1.block _ (by omega) (by simp <;> omega)).trans HS.out.cAt) 0 _ rfl
    have e3 := (hj.1.block rb hl (by simp; omega)).trans hq.row
    clear hj hq
    obtain ⟨s, g0, hs, hD⟩ : ∃ s : List UInt8, W.cell? ⟨rb, i * 9, none⟩ = some (.string (bt s)) ∧ s.length ≤ maxLen ∧ (mapD n).put (.string s) (.lit (.int .i64 i)) = mapD (n + 1) := by
      match n, i, hni with
      | 0, i, hni =>
        obtain rfl : i = 2 := by omega
        exact ⟨[99], cell_of e3 18 _ rfl, by decide, rfl⟩
      | 1, i, hni =>
        obtain rfl : i = 1 := by omega
        exact ⟨[98], cell_of e3 9 _ rfl, by decide, rfl⟩
      | 2, i, hni =>
        obtain rfl : i = 0 := by omega
        exact ⟨[97], cell_of e3 0 _ rfl, by decide, rfl⟩
      | n + 3, i, hni => omega
    have hi3 : i < 3 := by omega
    have hn3 : n < 3 := by omega
    have hwf : (Lit.int .i64 (i : Int)).wf = true := by rcases (by omega : i = 0 ∨ i = 1 ∨ i = 2) with h | h | h <;> rw [h] <;> decide
    obtain ⟨W5, hrun, hf5, hg5⟩ := FillAt.put (i := i) (s := s) (show FillAt W1 (w.heap.size + 1 + 1) n W.drew from ⟨⟨HJ.out.1.os, HJ.out.1.tape, HJ.out.1.output, HJ.out.1.size, HJ.out.1.block⟩, HJ.out.2⟩) hn3 hs hwf hD
    have HF := Lib.hid (And.intro hf5 hg5)
    have hni' : n = 2 - i := by omega
    clear e3 hD hs hf5 hg5 HJ HR
    gi_wp2
    gi_region_with_o fail
    all_goals gi_wp2
    all_goals exact ⟨(KeepsOthers.drew W).from _ |>.trans (KeepsFrom.of_grownBy HF.out.2 (fun j hj => by cases hj; omega)), _, rfl, HF.out.1⟩
  case hdone =>
    rintro D n W hD rfl hj hK
    have hq := HS.out.box
    have hl := (Array.getElem?_eq_some_iff.1 hq.row).1
    have hDl := (Array.getElem?_eq_some_iff.1 hK).1
    have hWs := hj.1.size
    have HQ := Lib.hid (show BndAt W (w.heap.size + 1) rb from ⟨(hj.1.block _ (by omega) (by simp <;> omega)).trans hq.box, (hj.1.block _ hl (by simp; omega)).trans hq.row⟩)
    have hcA := (hj.1.block _ (by omega) (by simp <;> omega)).trans HS.out.cAt
    have hcE := (hj.1.block _ (by omega) (by simp <;> omega)).trans HS.out.ex
    have e1 := cell_of HQ.out.box 0 _ rfl
    obtain ⟨W2, hW2⟩ : ∃ W2, W2 = ((W.alloc (.cells #[.bool false, .bool false, .bool false] 4)).alloc (.cells #[.slice (some ⟨W.heap.size, 0, none⟩) 3 3] 67)).alloc (.cells #[.slice none 0 0] 42) := ⟨_, rfl⟩
    have hcE2 := hp_at (hp_at (hp_at hcE (.cells #[.bool false, .bool false, .bool false] 4)) (.cells #[.slice (some ⟨W.heap.size, 0, none⟩) 3 3] 67)) (.cells #[.slice none 0 0] 42)
    have a0 := cell_of hcE2 0 _ rfl
    have a1 := cell_of hcE2 1 _ rfl
    have a2 := cell_of hcE2 2 _ rfl
    have a3 := cell_of hcE2 3 _ rfl
    have a4 := cell_of hcE2 4 _ rfl
    have a5 := cell_of hcE2 5 _ rfl
    have a6 := cell_of hcE2 6 _ rfl
    have a7 := cell_of hcE2 7 _ rfl
    have hb2 : Below W.heap.size W W2 := by
      rw [hW2]
      exact ((below_alloc' _ _).alloc (by simp) _).alloc (by simp <;> omega) _
    have HL2 := Lib.hid (show LvAt (W.heap.size + 1 + 1 + 1) W2 (w.heap.size + 1 + 1 + 1) (w.heap.size + 1 + 1) (W.heap.size + 1) W.heap.size (W.heap.size + 1 + 1) false false (.slice none 0 0) [] from by
      refine ⟨(hb2.block _ (by omega)).trans hcA, hj.2.kept (below_grow hb2) (by simp), ?_, ?_, ?_, World.ownsRow_nil _ _ _ _, by omega, ?_, by omega⟩
      · rw [hW2]; exact hp_at (hp_nw _ _ (by simp)) _
      · rw [hW2]; exact hp_at (hp_at (hp_nw _ _ rfl) _) _
      · rw [hW2]; exact hp_nw _ _ (by simp)
      · rw [hW2]; simp)
    have HB2 := Lib.hid hb2
    have HB0 := Lib.hid (show Below w.heap.size w W from HS.out.bel.grown hj.1 (by omega) (fun q hq => by cases hq; omega))
    have HMp := Lib.hid hj.2
    have HKd := Lib.hid hK
    have HA := Lib.hid hcA
    have hmk := fun W : World => make_bool3 W
    clear hj hK hq hcA hcE hmm HR hcE2 hb2
    go_wp2_with fail
    rw [← hW2]
    clear hW2 a0 a1 a2 a3 a4 a5 a6 a7 e1 hmk
    go_at_call 24
    refine (live_new (W.heap.size + 1 + 1 + 1) W.heap.size W2 _ _ _ _ _ false false _ [] HL2.out ⟨by omega, by omega, by omega⟩ (by decide) [97] (by decide) 0 (.inl ⟨rfl, rfl⟩) rfl rfl 0 0 none none none none 0 0 0 0).mono ?_
    rintro e w3 ⟨⟨v3, rfl⟩, hb3, lv3, hl3⟩
    have HB3 := Lib.hid (HB2.out.trans hb3)
    have HL3 := Lib.hid (show LvAt (W.heap.size + 1 + 1 + 1) w3 (w.heap.size + 1 + 1 + 1) (w.heap.size + 1 + 1) (W.heap.size + 1) W.heap.size (W.heap.size + 1 + 1) true false lv3 [0] from hl3)
    clear hb3 hl3 HL2 HB2
    go_wp2_with fail
    go_loopw [10] (fun i wr => Below W.heap.size W wr ∧ ∃ lv, (i = .int .i64 0 ∧ LvAt (W.heap.size + 1 + 1 + 1) wr (w.heap.size + 1 + 1 + 1) (w.heap.size + 1 + 1) (W.heap.size + 1) W.heap.size (W.heap.size + 1 + 1) true false lv [0]) ∨
      ((i = .int .i64 1 ∨ i = .int .i64 2) ∧ LvAt (W.heap.size + 1 + 1 + 1) wr (w.heap.size + 1 + 1 + 1) (w.heap.size + 1 + 1) (W.heap.size + 1) W.heap.size (W.heap.size + 1 + 1) true true lv [0, 1])) (fun i _ => 2 - (intOf i).toNat)
    case atStart => exact ⟨HB3.out, lv3, .inl ⟨rfl, HL3.out⟩⟩
    case round =>
      clear HL3 HB3
      obtain ⟨hbr, lv, ⟨rfl, hlr⟩ | ⟨rfl | rfl, hlr⟩⟩ := hrel
      · obtain ⟨g, c, rfl⟩ := own_form hlr.row
        have hwl := hbr.size
        have k0 := cell_of hlr.cLv 0 _ rfl
        have k1 := cell_of ((hbr.block _ (by omega)).trans HQ.out.box) 0 _ rfl
        have k2 : wr.cell? ⟨g, 0, none⟩ = some (.int .i64 0) := by
          have := hlr.row.cells (g := g) rfl 0 (.int .i64 0) rfl
          simpa [Addr.add] using this
        have hrow := (hbr.block rb (by omega)).trans HQ.out.row
        have b0 : wr.cell? ⟨rb, 1, none⟩ = some (.int .i64 1) := cell_of hrow 1 _ rfl
        have b1 : wr.cell? ⟨rb, 2, none⟩ = some (.string (bt [98])) := cell_of hrow 2 _ rfl
        have b2 : wr.cell? ⟨rb, 3, none⟩ = some (.int .i64 0) := cell_of hrow 3 _ rfl
        have b3 : wr.cell? ⟨rb, 4, none⟩ = some (.int .i64 0) := cell_of hrow 4 _ rfl
        have b4 : wr.cell? ⟨rb, 5, none⟩ = some (.slice none 0 0) := cell_of hrow 5 _ rfl
        have b5 : wr.cell? ⟨rb, 6, none⟩ = some (.slice none 0 0) := cell_of hrow 6 _ rfl
        have b6 : wr.cell? ⟨rb, 7, none⟩ = some (.slice none 0 0) := cell_of hrow 7 _ rfl
        have b7 : wr.cell? ⟨rb, 8, none⟩ = some (.slice none 0 0) := cell_of hrow 8 _ rfl
        have hbd : Below wr.heap.size wr wr.drew := (Below.refl _ _).drew
        have HLr := Lib.hid (hlr.below hbd)
        have HBr := Lib.hid hbr
        clear hrow hlr hbr hbd
        go_wp2_with fail
        refine region_one 9 (by kernel_rfl) (by kernel_rfl) ?_
        simp only [List.take_succ_cons, List.take_zero, List.drop_succ_cons, List.drop_zero]
        refine swk_want (by rfl) (fun K hK => ?_)
        replace hK := Lib.hid hK
        go_simp
        refine hK.out _ ?_
        clear hK K
        refine swk_want (by rfl) (fun K hK => ?_)
        replace hK := Lib.hid hK
        go_simp
        refine hK.out _ ?_
        clear hK K
        refine swk_want (by rfl) (fun K hK => ?_)
        replace hK := Lib.hid hK
        go_simp
        refine hK.out _ ?_
        clear hK K
        refine swk_want (by rfl) (fun K hK => ?_)
        replace hK := Lib.hid hK
        go_simp
        refine hK.out _ ?_
        clear hK K
        refine swk_want (by rfl) (fun K hK => ?_)
        replace hK := Lib.hid hK
        go_simp
        refine hK.out _ ?_
        clear hK K
        refine swk_want (by rfl) (fun K hK => ?_)
        replace hK := Lib.hid hK
        go_simp
        refine hK.out _ ?_
        clear hK K
        refine swk_want (by rfl) (fun K hK => ?_)
        replace hK := Lib.hid hK
        go_simp
        refine hK.out _ ?_
        clear hK K
        refine swk_want (by rfl) (fun K hK => ?_)
        replace hK := Lib.hid hK
        go_simp
        refine hK.out _ ?_
        clear hK K
        refine swk_want (by rfl) (fun K hK => ?_)
        replace hK := Lib.hid hK
        go_simp
        refine hK.out _ ?_
        clear hK K
        refine swk_nil ?_
        refine one_want rfl (by rfl) (fun K hK => ?_)
        replace hK := Lib.hid hK
        go_simp
        refine (live_new (W.heap.size + 1 + 1 + 1) W.heap.size wr.drew _ _ _ _ _ true false _ [0] HLr.out ⟨by omega, by omega, by omega⟩ (by decide) [98] (by decide) 1 (.inr ⟨rfl, rfl⟩) rfl rfl 0 0 none none none none 0 0 0 0).mono ?_
        rintro e w5 ⟨⟨v5, rfl⟩, hb5, lv5, hl5⟩
        refine hK.out _ _ ?_
        clear hK K
        have HB5 := Lib.hid ((HBr.out.drew).trans hb5)
        have HL5 := Lib.hid (show LvAt (W.heap.size + 1 + 1 + 1) w5 (w.heap.size + 1 + 1 + 1) (w.heap.size + 1 + 1) (W.heap.size + 1) W.heap.size (W.heap.size + 1 + 1) true true lv5 [0, 1] from hl5)
        clear hb5 hl5 k0 k1 k2 b0 b1 b2 b3 b4 b5 b6 b7
        simp only [List.take_succ_cons, List.take_zero, List.drop_succ_cons, List.drop_zero]
        refine swk_nil ?_
        go_wp2_with fail
        go_roundw
        case rel => exact ⟨HB5.out, lv5, .inr ⟨.inl rfl, HL5.out⟩⟩
        case measure => simp [intOf]
      · obtain ⟨g, c, rfl⟩ := own_form hlr.row
        have hwl := hbr.size
        have k0 := cell_of hlr.cLv 0 _ rfl
        have k1 := cell_of ((hbr.block _ (by omega)).trans HQ.out.box) 0 _ rfl
        have k2 : wr.cell? ⟨g, 1, none⟩ = some (.int .i64 1) := by
          have := hlr.row.cells (g := g) rfl 1 (.int .i64 1) rfl
          simpa [Addr.add] using this
        have hrow := (hbr.block rb (by omega)).trans HQ.out.row
        have b0 : wr.cell? ⟨rb, 10, none⟩ = some (.int .i64 2) := cell_of hrow 10 _ rfl
        have b1 : wr.cell? ⟨rb, 11, none⟩ = some (.string (bt [])) := cell_of hrow 11 _ rfl
        have b2 : wr.cell? ⟨rb, 12, none⟩ = some (.int .i64 1) := cell_of hrow 12 _ rfl
        have b3 : wr.cell? ⟨rb, 13, none⟩ = some (.int .i64 0) := cell_of hrow 13 _ rfl
        have b4 : wr.cell? ⟨rb, 14, none⟩ = some (.slice none 0 0) := cell_of hrow 14 _ rfl
        have b5 : wr.cell? ⟨rb, 15, none⟩ = some (.slice none 0 0) := cell_of hrow 15 _ rfl
        have b6 : wr.cell? ⟨rb, 16, none⟩ = some (.slice none 0 0) := cell_of hrow 16 _ rfl
        have b7 : wr.cell? ⟨rb, 17, none⟩ = some (.slice none 0 0) := cell_of hrow 17 _ rfl
        have hbd : Below wr.heap.size wr wr.drew := (Below.refl _ _).drew
        have HLr := Lib.hid (hlr.below hbd)
        have HBr := Lib.hid hbr
        clear hrow hlr hbr hbd
        go_wp2_with fail
        refine region_one 9 (by kernel_rfl) (by kernel_rfl) ?_
        simp only [List.take_succ_cons, List.take_zero, List.drop_succ_cons, List.drop_zero]
        refine swk_want (by rfl) (fun K hK => ?_)
        replace hK := Lib.hid hK
        go_simp
        refine hK.out _ ?_
        clear hK K
        refine swk_want (by rfl) (fun K hK => ?_)
        replace hK := Lib.hid hK
        go_simp
        refine hK.out _ ?_
        clear hK K
        refine swk_want (by rfl) (fun K hK => ?_)
        replace hK := Lib.hid hK
        go_simp
        refine hK.out _ ?_
        clear hK K
        refine swk_want (by rfl) (fun K hK => ?_)
        replace hK := Lib.hid hK
        go_simp
        refine hK.out _ ?_
        clear hK K
        refine swk_want (by rfl) (fun K hK => ?_)
        replace hK := Lib.hid hK
        go_simp
        refine hK.out _ ?_
        clear hK K
        refine swk_want (by rfl) (fun K hK => ?_)
        replace hK := Lib.hid hK
        go_simp
        refine hK.out _ ?_
        clear hK K
        refine swk_want (by rfl) (fun K hK => ?_)
        replace hK := Lib.hid hK
        go_simp
        refine hK.out _ ?_
        clear hK K
        refine swk_want (by rfl) (fun K hK => ?_)
        replace hK := Lib.hid hK
        go_simp
        refine hK.out _ ?_
        clear hK K
        refine swk_want (by rfl) (fun K hK => ?_)
        replace hK := Lib.hid hK
        go_simp
        refine hK.out _ ?_
        clear hK K
        refine swk_nil ?_
        refine one_want rfl (by rfl) (fun K hK => ?_)
        replace hK := Lib.hid hK
        go_simp
        refine (live_none 2 [] 1 0 none none none none 0 0 0 0 _ _ _ wr.drew rfl rfl (by decide)).mono ?_
        rintro e w5 ⟨⟨v5, rfl⟩, hb5⟩
        refine hK.out _ _ ?_
        clear hK K
        have HB5 := Lib.hid ((HBr.out.drew).trans (hb5.mono (show W.heap.size ≤ wr.drew.heap.size from hwl)))
        have HL5 := Lib.hid (HLr.out.below hb5)
        clear hb5 k0 k1 k2 b0 b1 b2 b3 b4 b5 b6 b7
        simp only [List.take_succ_cons, List.take_zero, List.drop_succ_cons, List.drop_zero]
        refine swk_nil ?_
        go_wp2_with fail
        go_roundw
        case rel => exact ⟨HB5.out, _, .inr ⟨.inr rfl, HL5.out⟩⟩
        case measure => simp [intOf]
      · obtain ⟨g, c, rfl⟩ := own_form hlr.row
        have hwl := hbr.size
        have k0 := cell_of hlr.cLv 0 _ rfl
        obtain ⟨hlen, hx | ⟨g', cap, cur, hv, hg, hh, hl1, hl2, hcs, htk⟩⟩ := hlr.row
        · cases hx.1
        cases hv
        have hsort := AnyM.slices_Sort_int Tryz.laidSortI g 0 c [0, 1] wr (holds_of_blockI hh htk) (Array.getElem?_eq_some_iff.1 hh).1 (by decide)
        have hms : ([0, 1] : List Int).mergeSort (fun x y => decide (x ≤ y)) = [0, 1] := by first | exact List.mergeSort_of_pairwise (by simp) | exact List.mergeSort_of_sorted (by simp)
        rw [hms] at hsort
        have hlv : W.heap.size + 1 + 1 < wr.heap.size := by have := hlr.bB; omega
        have HLr := Lib.hid hlr
        have HBr := Lib.hid hbr
        clear hlr hbr
        go_wp2_with fail
        refine hsort.mono ?_
        clear hsort
        rintro e w6 ⟨rfl, n6, os6, hw6⟩
        have hgb : wr.grownBy w6 (some g) := by rw [hw6]; exact grownBy_sortedI _
        have hrow6 : w6.ownsRow (W.heap.size + 1 + 1 + 1) 3 1 (.slice (some ⟨g, 0, none⟩) 2 c) 2 [.int .i64 0, .int .i64 1] := by
          rw [hw6]
          exact ownsRow_sortedI (ss := [0, 1]) (ts := [0, 1]) rfl hg hh hl1 hl2 hcs
        have k6 := cell_of ((hgb.block (W.heap.size + 1 + 1) hlv (by simp; omega)).trans HLr.out.cLv) 0 _ rfl
        have hD6 := (hgb.block D (by omega) (by simp; omega)).trans ((HBr.out.block D hDl).trans HKd.out)
        have z0 : w6.cell? ⟨g, 0, none⟩ = some (.int .i64 0) := by
          have := hrow6.cells (g := g) rfl 0 (.int .i64 0) rfl
          simpa [Addr.add] using this
        have z1 : w6.cell? ⟨g, 1, none⟩ = some (.int .i64 1) := by
          have := hrow6.cells (g := g) rfl 1 (.int .i64 1) rfl
          simpa [Addr.add] using this
        have HB6 := Lib.hid (HB0.out.trans ((HBr.out.grown hgb hwl (fun q hq => by cases hq; omega)).mono HB0.out.size))
        have HD6 := Lib.hid hD6
        have hgl : g < w6.heap.size := (hrow6.lt g rfl).2
        clear hgb hrow6 hw6 hh hcs htk hms k0 hD6
        go_wp2_with fail
        have hpo := grownBy_putObj' w6 D (.deferred none)
        have hpg := hpo.block g hgl (by simp; omega)
        exact ⟨by simp, .inl ⟨_, _, rfl, run_takeDeferred HD6.out, _, results_tmp rfl _ _ _, g, c, rfl, (World.cell?_of_block (w := w6) (a := ⟨g, 0, none⟩) hpg).trans z0, (World.cell?_of_block (w := w6) (a := ⟨g, 1, none⟩) hpg).trans z1, hl1, hl2, HB6.out.grown hpo HB6.out.size (fun q hq => by cases hq; omega)⟩⟩
end Go.Proofs.YtfcogjlojfcfkaaGreat
end

section
namespace Go.Proofs.YtfcogjlojfcfkaaGreat
open Go

section
variable {P : Program} {ops : Array Oper} {md : Region.Mode} {Q : Exit → Act → World → Prop}

theorem un_pos {listed : Array Bool} {i : Nat} (h : listed.getD i true = false) : 0 < listed.toList.countP (fun b => !b) := by
  have hi : i < listed.size := by
    rcases Nat.lt_or_ge i listed.size with h' | h'
    · exact h'
    · simp [Array.getElem?_eq_none h'] at h
  refine List.countP_pos_iff.2 ⟨false, ?_, rfl⟩
  have : listed[i] = false := by simpa [hi] using h
  rw [← this]
  exact Array.getElem_mem_toList hi
theorem un_set {listed : Array Bool} {i : Nat} (h : listed.getD i true = false) : (listed.setIfInBounds i true).toList.countP (fun b => !b) = listed.toList.countP (fun b => !b) - 1 := by
  have hi : i < listed.size := by
    rcases Nat.lt_or_ge i listed.size with h' | h'
    · exact h'
    · simp [Array.getElem?_eq_none h'] at h
  have hf : listed[i] = false := by simpa [hi] using h
  have hi' : i < listed.toList.length := by simpa using hi
  rw [Array.toList_setIfInBounds, List.countP_set hi']
  simp [hf]

theorem any_inv (Inv : Array Bool → Act → World → Prop)
    (hstep : ∀ listed a w i, Inv listed a w → i ∈ Region.ready md ops listed → wpOp P ops Q i (fun a' w' => Inv (listed.setIfInBounds i true) a' w') a w)
    (hend : ∀ listed a w, Inv listed a w → Region.ready md ops listed = [] → Q .normal a w) :
    ∀ (fuel : Nat) (listed : Array Bool) (a : Act) (w : World), listed.toList.countP (fun b => !b) ≤ fuel → Inv listed a w → wpAny P md ops Q fuel listed a w
  | 0, listed, a, w, hc, hI => by
    have hr : Region.ready md ops listed = [] := by
      rcases hx : Region.ready md ops listed with _ | ⟨i, r⟩
      · rfl
      · have hm : i ∈ Region.ready md ops listed := by rw [hx]; simp
        have := un_pos (mem_ready.1 hm).1
        omega
    exact ⟨hr, hend _ _ _ hI hr⟩
  | fuel + 1, listed, a, w, hc, hI => ⟨fun hr => hend _ _ _ hI hr, fun i hi => wpOp_mono (fun a' w' h => any_inv Inv hstep hend fuel _ a' w' (by
      have h1 := (mem_ready.1 hi).1
      have := un_pos h1
      rw [un_set h1]
      omega) h) (hstep _ _ _ _ hI hi)⟩

theorem region_inv {id : Nat} {l : List Oper} {a : Act} {w : World} (Inv : Array Bool → Act → World → Prop) (hm : P.follows .mixedOrders = true) (h0 : Inv (Array.replicate l.length false) a w.drew)
    (hstep : ∀ listed a w i, Inv listed a w → i ∈ Region.ready .any l.toArray listed → wpOp P l.toArray Q i (fun a' w' => Inv (listed.setIfInBounds i true) a' w') a w)
    (hend : ∀ listed a w, Inv listed a w → Region.ready .any l.toArray listed = [] → Q .normal a w) : (Code.region id l.toArray true).wp P Q a w := by
  refine wp_region_any hm (any_inv Inv hstep hend _ _ _ _ ?_ (by simpa using h0))
  have := List.countP_le_length (p := fun b : Bool => !b) (l := (Array.replicate l.toArray.size false).toList)
  simpa using this

theorem op_want {i : Nat} {K : Act → World → Prop} {a : Act} {w : World} {o : Oper} (ho : ops[i]? = some o) (hw : Region.wanted o (yielded ops a.tmps) = true) (h : ∀ K' : Act → World → Prop, (∀ a2 w2, K a2 w2 → K' a2 w2) → o.wp P a w K' Q) : wpOp P ops Q i K a w := by
  unfold wpOp
  simp only [ho, hw, if_true]
  exact .inl (h K fun _ _ h => h)
/-- What has come, behind one more. -/
theorem listed_set {listed : Array Bool} {i k : Nat} (h : listed.getD i true = false) : (listed.setIfInBounds i true).getD k false = (decide (k = i) || listed.getD k false) := by
  by_cases hk : k = i
  · subst hk
    have hi : k < listed.size := by
      rcases Nat.lt_or_ge k listed.size with h' | h'
      · exact h'
      · simp [Array.getElem?_eq_none h'] at h
    simp [hi]
  · rw [getD_set_ne false (Ne.symm hk)]
    simp [hk]
/-- An operation that waits for none but such as have come has come, where none is ready. -/
theorem all_come {listed : Array Bool} {i : Nat} {o : Oper} (hr : Region.ready md ops listed = []) (ho : ops[i]? = some o) (hd : ∀ e ∈ o.after, listed.getD e.on false = true) (hi : i < listed.size) : listed.getD i false = true := by
  cases hx : listed.getD i false with
  | true => rfl
  | false =>
    have hm : i ∈ Region.ready md ops listed := mem_ready.2 ⟨getD_in hi hx, o, ho, fun e he _ => hd e he⟩
    rw [hr] at hm
    cases hm
end
end Go.Proofs.YtfcogjlojfcfkaaGreat
end
