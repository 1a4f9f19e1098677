/- The contract of occur.Live at any expression and binds. Bounds on names and on how great they are. -/
import Derived.Test.YtkdpojmbahjdjaaBackF
import Derived.Test.YtkdpojmbahjdjaaOne
namespace Go.Proofs.Ytkdpojmbahjdjaa
open Go.RowKit Ex0 Go.Maps Go.Sort Go.Shelf
attribute [local go_sem] bt_size bt_list bt_toList Oper.semAt_some

theorem backward_g (a : Option Addr) (n c : Nat) (W : World) : Calls Try.prog 13 #[.slice a n c] W fun e w' =>
    e = .returned (.func (.func 20) #[] #[.pointer (some ⟨W.heap.size, 0, none⟩)]) ∧ w' = W.alloc (.cells #[.slice a n c] 24) := by
  go_enter Try.func13, Try.ntmps13
  go_wp2_with fail
  go_ret
  exact ⟨rfl, rfl⟩
theorem FillS.keep {w W1 W : World} {sv : Value} {k : Int} {s : List UInt8} {n op : Int} {vn va vb vc : Value} {f : Fx} {t : Nat} (hS : LsS w W1 sv k s n op vn va vb vc) (h : FillS W1 (w.heap.size + 1 + 1) f t W) : Keep (Old w.heap.size) (Old w.heap.size) w W :=
  fun b hb => ⟨hb, fun o => World.cell?_of_block (w := w) (w' := W) (a := ⟨b, o, none⟩) ((h.1.block b (by have := hS.size; have : b < w.heap.size := hb; omega) (by have : b < w.heap.size := hb; simp; omega)).trans (hS.bel.block b hb))⟩

theorem sort_ints (xs : List Nat) : (xs.map (fun i => ((i : Nat) : Int))).mergeSort (fun x y => decide (x ≤ y)) = (xs.mergeSort (fun x y => decide (x ≤ y))).map (fun i => ((i : Nat) : Int)) := by
  refine (List.map_mergeSort (fun a _ b _ => ?_)).symm
  simp
theorem sort_lt {xs : List Nat} (h : xs.Nodup) : (xs.mergeSort (fun x y => decide (x ≤ y))).Pairwise (· < ·) := by
  have h1 : (xs.mergeSort (fun x y => decide (x ≤ y))).Pairwise (fun a b => decide (a ≤ b) = true) := List.pairwise_mergeSort (fun a b c h1 h2 => by simp at *; omega) (fun a b => by simp; omega) xs
  have h2 : (xs.mergeSort (fun x y => decide (x ≤ y))).Nodup := (List.mergeSort_perm xs _).nodup_iff.2 h
  exact (h1.and h2).imp (fun {a b} ⟨h3, h4⟩ => by simp at h3; omega)
theorem own_base {w : World} {B B' : Nat} {E : TypeId} {sz : Nat} {v : Value} {n : Nat} {xs : List Value} (h : w.ownsRow B E sz v n xs) (hb : B' ≤ B) : w.ownsRow B' E sz v n xs := by
  obtain ⟨h1, h2⟩ := h
  refine ⟨h1, ?_⟩
  rcases h2 with h2 | ⟨g, cap, cur, rfl, hg, r⟩
  · exact .inl h2
  · exact .inr ⟨g, cap, cur, rfl, Nat.le_trans hb hg, r⟩
/-- What Live answers: the indices of the binds that are reached, rising. -/
def LivePost (L : List (List UInt8 × (List UInt8 → Bool))) (F : List UInt8 → Bool) (w : World) (e : Ending) (w' : World) : Prop := ∃ (v : Value) (xs : List Nat), e = .returned v ∧ w'.ownsRow w.heap.size 3 1 v xs.length (xs.map fun i => Value.int .i64 (i : Nat)) ∧ xs.Pairwise (· < ·) ∧ (∀ i, i ∈ xs ↔ Rch L F i) ∧ Below w.heap.size w w'

set_option maxHeartbeats 4000000 in
set_option maxRecDepth 100000 in
theorem live_any (w : World) (k : Int) (s : List UInt8) (nn op : Int) (vn va vb vc : Value) (ns : List (List UInt8)) (a b c bs : Fx) (ao : Option Addr) (cap : Nat) (hx : ExV (Old w.heap.size) w vn va vb vc ns a b c) (hv : FxV (Old w.heap.size) w 1 (.slice ao bs.len cap) bs) (hlen : bs.len ≤ 1048576)
    (hok : OkE s ns a b c) (hob : OkB bs) :
    Calls Try.prog 7 #[exV k s nn op vn va vb vc, .slice ao bs.len cap] w (LivePost (bl bs) (fun x => fvE x k s ns a b c) w) := by
  have hmx : Try.prog.follows .mixedOrders = true := by kernel_rfl
  have hmm := @run_makeMap Try.prog
  have HX := Lib.hid hx
  have HV := Lib.hid hv
  have HOk := Lib.hid hok
  have HOb := Lib.hid hob
  obtain ⟨an, cn, rfl⟩ := hx.ns.slice
  obtain ⟨aa, ca, rfl⟩ := hx.a.slice
  obtain ⟨ab, cb, rfl⟩ := hx.b.slice
  obtain ⟨ac, cc, rfl⟩ := hx.c.slice
  clear hx hv hok hob
  unfold exV
  refine (callsIn_wide (n := 4)).1 (callsIn_of_wp_marks Try.func7 rfl trivial (wpIn_wide.2 ?_) rfl)
  simp only [Try.ntmps7, List.size_toArray, List.length_cons, List.length_nil, Nat.reduceAdd, Nat.reduceSub, Array.replicate_succ, Array.replicate_zero, List.push_toArray, List.append_toArray, List.nil_append, List.cons_append]
  go_wp2_with fail
  go_at_call 13
  refine (backward_g _ _ _ _).mono ?_
  rintro e W1 ⟨rfl, hW1⟩
  have HS := Lib.hid (lss_start hW1)
  go_wp2_with fail
  rw [← hW1]
  clear hW1
  have hsz := HS.out.size
  apply range_st (gf := 20) (lb := #[.pointer (some ⟨w.heap.size + 1 + 1 + 1 + 1, 0, none⟩)]) (encs := Bd.enc) (J := FillS W1 (w.heap.size + 1 + 1) bs) (ok := fun t x => x.i + t + 1 = bs.len) (nx := fun t _ t' => t' = t + 1) (done := fun t => t = bs.len) (s0 := 0)
  case hg => rfl
  case eg => exact enters_of Try.func20 (by kernel_rfl) rfl
  case hps => intro _; rfl
  case hJ => exact FillS.own (by omega)
  case h0 =>
    refine ⟨⟨rfl, rfl, rfl, Nat.le_refl _, fun _ _ _ => rfl⟩, .map [], ⟨#[], 0, HS.out.map, ⟨by simp, MapKept.stamped_empty 0, by simp⟩, Nat.le_refl _, rfl⟩, ⟨_, rfl⟩, fun x => ?_⟩
    rw [Nat.sub_zero, List.drop_eq_nil_of_le (by rw [bl_len]; exact Nat.le_refl _)]
    exact ⟨rfl, fun i hi => by cases hi⟩
  case hseq =>
    intro l K W2 hK hW2 hj hk hY
    exact back_any (w.heap.size + 1 + 1 + 1 + 1) w.heap.size ao cap bs w HV.out hlen _ K l W2 (fun t W h => ⟨cell_of ((h.1.block _ (by omega) (by simp <;> omega)).trans HS.out.bx) 0 _ rfl, FillS.keep HS.out h⟩) hj hk (fun t x W h1 h2 h3 => hY t x W h1 h2 h3)
  case hassign =>
    intro l y W K hK
    simp only [Bd.enc]
    gi_wp2
    exact hK
  case hbody =>
    intro l t x W hj hti
    obtain ⟨i, hi⟩ : ∃ i, x.i = i := ⟨_, rfl⟩
    simp only [hi] at hti ⊢
    have e1 := cell_of ((hj.1.block _ (by omega) (by simp <;> omega)).trans HS.out.box) 0 _ rfl
    have e2 := cell_of ((hj.1.block _ (by omega) (by simp <;> omega)).trans HS.out.cAt) 0 _ rfl
    obtain ⟨bb, o, s', k', s0, n', op', wn, wa, wb, wc, ns', a', b', c', f1, r, rfl, hbb, hbl, hbm, hbe, hfl, c0, _, _, _, _, _, _, _, _, _⟩ := bind_at (HV.out.keep (FillS.keep HS.out hj)) (i := i) (by omega)
    have hs := (HOb.out _ _ _ _ _ _ _ _ _ _ _ hbe).1
    obtain ⟨W5, hrun, hf5, hg5⟩ := FillS.put (show FillS W1 (w.heap.size + 1 + 1) bs t W.drew from ⟨⟨hj.1.os, hj.1.tape, hj.1.output, hj.1.size, hj.1.block⟩, let ⟨D, a, b, c⟩ := hj.2; ⟨D, a, b, c⟩⟩) hti hbe hfl hs hlen
    have HF := Lib.hid (And.intro hf5 hg5)
    have hil : i < bs.len := by omega
    have hil' : (i : Int) < bs.len := by omega
    unfold maxLen at hbm
    clear hbe hfl hf5 hg5 hj hs hti hi
    gi_wp2
    gi_region_with_o fail
    all_goals gi_wp2
    all_goals exact ⟨(KeepsOthers.drew W).from _ |>.trans (KeepsFrom.of_grownBy HF.out.2 (fun j hj => by cases hj; omega)), _, rfl, HF.out.1⟩
  case hdone =>
    rintro D t W hD rfl hj hK
    have hWs := hj.1.size
    have hDl := (Array.getElem?_eq_some_iff.1 hK).1
    have hcA := (hj.1.block _ (by omega) (by simp <;> omega)).trans HS.out.cAt
    have hcE := (hj.1.block _ (by omega) (by simp <;> omega)).trans HS.out.ex
    have hcB := (hj.1.block _ (by omega) (by simp <;> omega)).trans HS.out.box
    have hkp := FillS.keep HS.out hj
    have HBx := Lib.hid hcB
    have e1 := cell_of hcB 0 _ rfl
    obtain ⟨cz, hcz, hmk⟩ : ∃ cz : Array Value, cz = ((List.replicate bs.len false).map Value.bool).toArray ∧ ∀ W : World, (Instr.makeSlice 48 (.int .i64 (bs.len : Nat)) (.int .i64 (bs.len : Nat))).run Try.prog W = .ok (.slice (some ⟨W.heap.size, 0, none⟩) bs.len bs.len) (W.alloc (.cells cz 4)) := ⟨_, rfl, fun W => make_bools W bs.len hlen⟩
    obtain ⟨W2, hW2⟩ : ∃ W2, W2 = ((W.alloc (.cells cz 4)).alloc (.cells #[.slice (some ⟨W.heap.size, 0, none⟩) bs.len bs.len] 48)).alloc (.cells #[.slice none 0 0] 36) := ⟨_, rfl⟩
    have hcE2 := hp_at' (hp_at' (hp_at' hcE (.cells cz 4)) (.cells #[.slice (some ⟨W.heap.size, 0, none⟩) bs.len bs.len] 48)) (.cells #[.slice none 0 0] 36)
    have a0 := cell_of hcE2 0 _ rfl
    have a1 := cell_of hcE2 1 _ rfl
    have a2 := cell_of hcE2 2 _ rfl
    have a3 := cell_of hcE2 3 _ rfl
    have a4 := cell_of hcE2 4 _ rfl
    have a5 := cell_of hcE2 5 _ rfl
    have a6 := cell_of hcE2 6 _ rfl
    have a7 := cell_of hcE2 7 _ rfl
    have hb2 : Below W.heap.size W W2 := by
      rw [hW2]
      exact ((below_alloc' _ _).alloc (by simp) _).alloc (by simp <;> omega) _
    have hpl := hj.2
    rw [Nat.sub_self, List.drop_zero] at hpl
    have HL2 := Lib.hid (show LvS (W.heap.size + 1 + 1 + 1) W2 (w.heap.size + 1 + 1 + 1) (w.heap.size + 1 + 1) (W.heap.size + 1) W.heap.size (W.heap.size + 1 + 1) bs.len bs.len (plFrom (bl bs) 0) (List.replicate bs.len false) (.slice none 0 0) [] from by
      refine ⟨(hb2.block _ (by omega)).trans hcA, hpl.kept (below_grow hb2) (by simp), ?_, ?_, ?_, World.ownsRow_nil _ _ _ _, by omega, ?_, by omega⟩
      · rw [hW2]; exact hp_at' (hp_nw' _ _ (by simp)) _
      · rw [hW2, ← hcz]; exact hp_at' (hp_at' (hp_nw' _ _ rfl) _) _
      · rw [hW2]; exact hp_nw' _ _ (by simp)
      · rw [hW2]; simp)
    have HM2 := Lib.hid (show LvM bs.len (plFrom (bl bs) 0) (List.replicate bs.len false) [] from ⟨by simp, fun i => by simp [List.getElem?_replicate], List.nodup_nil, hlen, fun x i h => by have := (plFrom_lt _ _ _ _ h).2; rw [bl_len] at this; omega⟩)
    have HB2 := Lib.hid hb2
    have HB0 := Lib.hid (show Below w.heap.size w W from HS.out.bel.grown hj.1 (by omega) (fun q hq => by cases hq; omega))
    have HKd := Lib.hid hK
    have HKp := Lib.hid hkp
    have hX2 := HX.out.keep (show Keep (Old w.heap.size) (Old W.heap.size) w W2 from fun b hb => ⟨by have : b < w.heap.size := hb; show b < W.heap.size; omega, fun o => (hb2.cell (p := ⟨b, o, none⟩) (by have : b < w.heap.size := hb; show b < W.heap.size; omega)).trans ((hkp b hb).2 o)⟩)
    clear hj hK hcA hcE hmm hcE2 hb2 hcB hkp hpl hcz
    go_wp2_with fail
    rw [← hW2]
    clear hW2 a0 a1 a2 a3 a4 a5 a6 a7 e1 hmk
    go_at_call 14
    refine (need_any (W.heap.size + 1 + 1 + 1) W.heap.size W2 _ _ _ _ _ _ _ _ _ _ [] HL2.out HM2.out ⟨by omega, by omega, by omega⟩ k s nn op _ _ _ _ ns a b c hX2 HOk.out.nm HOk.out.ce HOk.out.cnt HOk.out.by_).mono ?_
    rintro e w3 ⟨⟨v3, rfl⟩, hb3, nd3, lv3, l3, hl3, hm3, hi3⟩
    rw [List.nil_append] at hl3 hm3 hi3
    have HB3 := Lib.hid (HB2.out.trans hb3)
    have HL3 := Lib.hid hl3
    have HM3 := Lib.hid hm3
    have HI3 := Lib.hid hi3
    clear hb3 hl3 hm3 hi3 HL2 HB2 HM2 hX2
    go_wp2_with fail
    go_loopw [10] (fun u wr => Below W.heap.size W wr ∧ ∃ (j : Nat) (nd : List Bool) (lv : Value) (xs : List Nat), j ≤ xs.length ∧ u = .int .i64 j ∧ LvS (W.heap.size + 1 + 1 + 1) wr (w.heap.size + 1 + 1 + 1) (w.heap.size + 1 + 1) (W.heap.size + 1) W.heap.size (W.heap.size + 1 + 1) bs.len bs.len (plFrom (bl bs) 0) nd lv xs ∧ LvM bs.len (plFrom (bl bs) 0) nd xs ∧
      (∀ i ∈ xs, Rch (bl bs) (fun x => fvE x k s ns a b c) i) ∧ (∀ x i, fvE x k s ns a b c = true → plFrom (bl bs) 0 x = some i → i ∈ xs) ∧ (∀ t i p x i', t < j → xs[t]? = some i → (bl bs)[i]? = some p → p.2 x = true → plFrom (bl bs) 0 x = some i' → i' ∈ xs)) (fun u _ => bs.len - (intOf u).toNat)
    case atStart =>
      refine ⟨HB3.out, 0, nd3, lv3, l3, Nat.zero_le _, rfl, HL3.out, HM3.out, fun i hi => ?_, fun x i hx hp => (HI3.out i).2 (.inr ⟨x, hx, hp⟩), fun t i p x i' ht => by omega⟩
      rcases (HI3.out i).1 hi with h | ⟨x, hx, hp⟩
      · cases h
      · exact .root hx hp
    case round =>
      clear HL3 HB3 HM3 HI3
      obtain ⟨hbr, j, nd, lv, xs, hj, rfl, hlr, hmr, hr1, hr2, hr3⟩ := hrel
      have hwl := hbr.size
      have hxl := hmr.le
      have k0 := cell_of hlr.cLv 0 _ rfl
      have k1 := cell_of ((hbr.block _ (by omega)).trans HBx.out) 0 _ rfl
      have HLr := Lib.hid hlr
      have HMr := Lib.hid hmr
      have HBr := Lib.hid hbr
      have HR := Lib.hid (And.intro hr1 (And.intro hr2 hr3))
      by_cases hlt : j < xs.length
      · obtain ⟨g, c6, rfl⟩ : ∃ g c, lv = .slice (some ⟨g, 0, none⟩) xs.length c := by
          rcases hlr.row.2 with ⟨_, h⟩ | ⟨g, c, _, h, _⟩
          · omega
          · exact ⟨g, c, h⟩
        obtain ⟨i, hxi⟩ : ∃ i, xs[j]? = some i := ⟨_, List.getElem?_eq_getElem hlt⟩
        have him : i ∈ xs := List.mem_of_getElem? hxi
        have hin := hmr.lt i him
        have k2 : wr.cell? ⟨g, j, none⟩ = some (.int .i64 (i : Nat)) := by
          have := hlr.row.cells (g := g) rfl j (.int .i64 (i : Nat)) (by simp [hxi])
          rw [show (⟨g, 0, none⟩ : Addr).add j = ⟨g, j, none⟩ from by unfold Addr.add; split <;> simp_all] at this
          exact this
        have hkw : Keep (Old w.heap.size) (Old W.heap.size) w wr := fun b hb => ⟨by have : b < w.heap.size := hb; show b < W.heap.size; omega, fun o => (hbr.cell (p := ⟨b, o, none⟩) (by have : b < w.heap.size := hb; show b < W.heap.size; omega)).trans ((HKp.out b hb).2 o)⟩
        obtain ⟨bb, o, s', k', s0, n', op', wn, wa, wb, wc, ns', a', b', c', f1, r, rfl, hbb, hbl, hbm, hbe, hfl, _, b0, b1, b2, b3, b4, b5, b6, b7, hex⟩ := bind_at (HV.out.keep hkw) (i := i) hin
        have hpi : (bl bs)[i]? = some (s', fun x => fvE x k' s0 ns' a' b' c') := by
          rw [← hfl, hbe]
          exact bl_at f1 r s' k' s0 n' op' ns' a' b' c'
        have hok' := (HOb.out _ _ _ _ _ _ _ _ _ _ _ hbe).2
        have hbd : wr.grownBy wr.drew none := ⟨rfl, rfl, rfl, Nat.le_refl _, fun _ _ _ => rfl⟩
        have hN := Lib.hid (need_any (W.heap.size + 1 + 1 + 1) W.heap.size wr.drew _ _ _ _ _ _ _ _ _ _ xs (HLr.out.below hbd) HMr.out ⟨by omega, by omega, by omega⟩ k' s0 n' op' wn wa wb wc ns' a' b' c' (hex.keep (show Keep (Old W.heap.size) (Old W.heap.size) wr wr.drew from fun q hq => ⟨hq, fun _ => rfl⟩)) hok'.nm hok'.ce hok'.cnt hok'.by_)
        have HP := Lib.hid (And.intro hpi (And.intro hxi him))
        have hil : (i : Int) < bs.len := by omega
        have hjl : (j : Int) < xs.length := by omega
        have b1' : wr.cell? ⟨bb, o + i * 9 + 1 + 1, none⟩ = some (.string (bt s0)) := b1
        have b2' : wr.cell? ⟨bb, o + i * 9 + 1 + 2, none⟩ = some (.int .i64 n') := b2
        have b3' : wr.cell? ⟨bb, o + i * 9 + 1 + 3, none⟩ = some (.int .i64 op') := b3
        have b4' : wr.cell? ⟨bb, o + i * 9 + 1 + 4, none⟩ = some wn := b4
        have b5' : wr.cell? ⟨bb, o + i * 9 + 1 + 5, none⟩ = some wa := b5
        have b6' : wr.cell? ⟨bb, o + i * 9 + 1 + 6, none⟩ = some wb := b6
        have b7' : wr.cell? ⟨bb, o + i * 9 + 1 + 7, none⟩ = some wc := b7
        unfold maxLen at hbm
        clear hlr hmr hbr hr1 hr2 hr3 hbe hfl hex hok' hbd hkw hpi hxi him b1 b2 b3 b4 b5 b6 b7
        go_wp2_with fail
        refine region_one 9 (by kernel_rfl) (by kernel_rfl) ?_
        simp only [List.take_succ_cons, List.take_zero, List.drop_succ_cons, List.drop_zero]
        refine swk_want (by rfl) (fun K hK => ?_)
        replace hK := Lib.hid hK
        go_simp
        refine hK.out _ ?_
        clear hK K
        refine swk_want (by rfl) (fun K hK => ?_)
        replace hK := Lib.hid hK
        go_simp
        refine hK.out _ ?_
        clear hK K
        refine swk_want (by rfl) (fun K hK => ?_)
        replace hK := Lib.hid hK
        go_simp
        refine hK.out _ ?_
        clear hK K
        refine swk_want (by rfl) (fun K hK => ?_)
        replace hK := Lib.hid hK
        go_simp
        refine hK.out _ ?_
        clear hK K
        refine swk_want (by rfl) (fun K hK => ?_)
        replace hK := Lib.hid hK
        go_simp
        refine hK.out _ ?_
        clear hK K
        refine swk_want (by rfl) (fun K hK => ?_)
        replace hK := Lib.hid hK
        go_simp
        refine hK.out _ ?_
        clear hK K
        refine swk_want (by rfl) (fun K hK => ?_)
        replace hK := Lib.hid hK
        go_simp
        refine hK.out _ ?_
        clear hK K
        refine swk_want (by rfl) (fun K hK => ?_)
        replace hK := Lib.hid hK
        go_simp
        refine hK.out _ ?_
        clear hK K
        refine swk_want (by rfl) (fun K hK => ?_)
        replace hK := Lib.hid hK
        go_simp
        refine hK.out _ ?_
        clear hK K
        refine swk_nil ?_
        refine one_want rfl (by rfl) (fun K hK => ?_)
        replace hK := Lib.hid hK
        go_simp
        refine hN.out.mono ?_
        rintro e w5 ⟨⟨v5, rfl⟩, hb5, nd5, lv5, l5, hl5, hm5, hi5⟩
        refine hK.out _ _ ?_
        clear hK K
        have HB5 := Lib.hid ((HBr.out.drew).trans hb5)
        have HL5 := Lib.hid hl5
        have HM5 := Lib.hid hm5
        have HI5 := Lib.hid hi5
        clear hb5 hl5 hm5 hi5 k0 k1 k2 b0 b1' b2' b3' b4' b5' b6' b7' hN
        simp only [List.take_succ_cons, List.take_zero, List.drop_succ_cons, List.drop_zero]
        refine swk_nil ?_
        go_wp2_with fail
        go_roundw
        case rel =>
          refine ⟨HB5.out, j + 1, nd5, lv5, xs ++ l5, by rw [List.length_append]; omega, by go_num, HL5.out, HM5.out, fun i' hi' => ?_, fun x i' hx hp => (HI5.out i').2 (.inl (HR.out.2.1 x i' hx hp)), fun t i1 p x i' ht h1 h2 h3 h4 => ?_⟩
          · rcases (HI5.out i').1 hi' with h | ⟨x, hx, hp⟩
            · exact HR.out.1 i' h
            · exact .step (HR.out.1 i HP.out.2.2) HP.out.1 hx hp
          · rw [List.getElem?_append_left (by omega)] at h1
            by_cases htj : t = j
            · subst htj
              rw [HP.out.2.1] at h1
              cases h1
              rw [HP.out.1] at h2
              cases h2
              exact (HI5.out i').2 (.inr ⟨x, h3, h4⟩)
            · exact (HI5.out i').2 (.inl (HR.out.2.2 t i1 p x i' (by omega) h1 h2 h3 h4))
        case measure => simp [intOf]; omega
      · obtain rfl : j = xs.length := by omega
        have HMem := Lib.hid (show ∀ i, i ∈ xs ↔ Rch (bl bs) (fun x => fvE x k s ns a b c) i from fun i => ⟨hr1 i, fun h => by
          induction h with
          | root hx hp => exact hr2 _ _ hx hp
          | step hj hl hx hp ih =>
            obtain ⟨t, ht, hti⟩ := List.getElem_of_mem ih
            exact hr3 t _ _ _ _ ht (by rw [List.getElem?_eq_getElem ht, hti]) hl hx hp⟩)
        have hD1 := (hbr.block D hDl).trans HKd.out
        have hlvl : W.heap.size + 1 + 1 < wr.heap.size := by have := hlr.bB; omega
        by_cases hxs : xs = []
        · subst hxs
          obtain ⟨p0, c0, rfl⟩ : ∃ p c, lv = .slice p 0 c := by
            rcases hlr.row.2 with ⟨h, _⟩ | ⟨g, c, _, h, _⟩
            · exact ⟨_, _, h⟩
            · exact ⟨_, _, h⟩
          have HD1 := Lib.hid hD1
          clear hlr hmr hbr hr1 hr2 hr3 hD1 hlt
          simp only [List.length_nil]
          go_wp2_with fail
          refine (AnyM.slices_Sort_int_none Try.laidSortI p0 c0 _).mono ?_
          rintro e w6 ⟨rfl, rfl⟩
          go_wp2_with fail
          have hpo := grownBy_putObj' w6 D (.deferred none)
          have hB6 := HB0.out.trans (HBr.out.mono HB0.out.size)
          have hpost : LivePost (bl bs) (fun x => fvE x k s ns a b c) w (.returned (.slice p0 0 c0)) (w6.putObj D (.deferred none)) :=
            ⟨_, [], rfl, own_same (own_base HLr.out.row (by omega)) (fun q hq => hpo.block q (HLr.out.row.lt q hq).2 (by have := (HLr.out.row.lt q hq).1; simp; omega)), List.Pairwise.nil, HMem.out, hB6.grown hpo hB6.size (fun q hq => by cases hq; omega)⟩
          obtain ⟨v9, xs9, h9, h10⟩ := hpost
          cases h9
          refine ⟨by simp, .inl ⟨_, _, rfl, run_takeDeferred HD1.out, _, results_tmp rfl _ _ _, ?_⟩⟩
          exact ⟨_, xs9, rfl, h10⟩
        · obtain ⟨hlen', hx | ⟨g, cap', cur, hv', hg, hh, hl1, hl2, hcs, htk⟩⟩ := hlr.row
          · exact absurd (List.eq_nil_of_length_eq_zero hx.2) hxs
          subst hv'
          have htk' : cur.toList.take (xs.map (fun i => ((i : Nat) : Int))).length = (xs.map (fun i => ((i : Nat) : Int))).map (Value.int .i64) := by
            rw [Nat.mul_one] at htk
            rw [List.length_map, List.map_map]
            exact htk
          have hsort := AnyM.slices_Sort_int Try.laidSortI g 0 cap' (xs.map (fun i => ((i : Nat) : Int))) wr (holds_of_blockI hh htk') (Array.getElem?_eq_some_iff.1 hh).1 (by rw [List.length_map]; omega)
          rw [sort_ints, List.length_map] at hsort
          have HH := Lib.hid (And.intro hh (And.intro hl1 (And.intro hl2 (And.intro hcs hg))))
          have HS2 := Lib.hid hsort
          have HD1 := Lib.hid hD1
          have hgW : W.heap.size + 1 + 1 + 1 ≤ g := hg
          clear hlr hmr hbr hr1 hr2 hr3 hD1 hlt hh hl1 hl2 hcs htk htk' hsort hg hlen'
          go_wp2_with fail
          refine HS2.out.mono ?_
          rintro e w6 ⟨rfl, n6, os6, hw6⟩
          have hgb : wr.grownBy w6 (some g) := by rw [hw6]; exact grownBy_sortedI _
          have hrow6 : w6.ownsRow (W.heap.size + 1 + 1 + 1) 3 1 (.slice (some ⟨g, 0, none⟩) xs.length cap') xs.length (((xs.mergeSort (fun x y => decide (x ≤ y))).map (fun i => ((i : Nat) : Int))).map (Value.int .i64)) := by
            rw [hw6]
            have := ownsRow_sortedI (w := wr) (n := n6) (os := os6) (ss := xs.map (fun i => ((i : Nat) : Int))) (ts := (xs.mergeSort (fun x y => decide (x ≤ y))).map (fun i => ((i : Nat) : Int))) (by rw [List.length_map, List.length_map, List.length_mergeSort]) HH.out.2.2.2.2 HH.out.1 (by rw [List.length_map]; exact HH.out.2.1) HH.out.2.2.1 HH.out.2.2.2.1
            rw [List.length_map] at this
            exact this
          rw [List.map_map] at hrow6
          have k6 := cell_of ((hgb.block (W.heap.size + 1 + 1) hlvl (by simp; omega)).trans HLr.out.cLv) 0 _ rfl
          have HD6 := Lib.hid ((hgb.block D (by omega) (by simp; omega)).trans HD1.out)
          have hB6 := HB0.out.trans ((HBr.out.grown hgb hwl (fun q hq => by cases hq; omega)).mono HB0.out.size)
          have HR6 := Lib.hid (And.intro hrow6 hB6)
          clear hgb hrow6 hw6 hB6 k0
          go_wp2_with fail
          have hpo := grownBy_putObj' w6 D (.deferred none)
          have hpost : LivePost (bl bs) (fun x => fvE x k s ns a b c) w (.returned (.slice (some ⟨g, 0, none⟩) xs.length cap')) (w6.putObj D (.deferred none)) :=
            ⟨_, xs.mergeSort (fun x y => decide (x ≤ y)), rfl, by
              rw [List.length_mergeSort]
              exact own_same (own_base HR6.out.1 (by omega)) (fun q hq => hpo.block q (HR6.out.1.lt q hq).2 (by have := (HR6.out.1.lt q hq).1; simp; omega)), sort_lt HMr.out.nodup, fun i => by rw [List.mem_mergeSort]; exact HMem.out i, HR6.out.2.grown hpo HR6.out.2.size (fun q hq => by cases hq; omega)⟩
          obtain ⟨v9, xs9, h9, h10⟩ := hpost
          cases h9
          refine ⟨by simp, .inl ⟨_, _, rfl, run_takeDeferred HD6.out, _, results_tmp rfl _ _ _, ?_⟩⟩
          exact ⟨_, xs9, rfl, h10⟩
end Go.Proofs.Ytkdpojmbahjdjaa
