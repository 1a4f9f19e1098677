/- The contract of the iterator over the parts into which counting goes: where the name is among those that an expression's binds bind. A bound on how many parts there are. -/
import Derived.Test.YtfcogjlojfcfkaaGreatMQ
namespace Go.Proofs.YtfcogjlojfcfkaaGreat
open Go.RowKit Go.Shelf Ex0
attribute [local go_sem] bt_size bt_list bt_toList Oper.semAt_some

set_option maxHeartbeats 4000000 in
set_option maxRecDepth 100000 in
theorem iter_bound (cb kb M bx1 bx2 eb eo : Nat) (x : List UInt8) (k : Int) (s : List UInt8) (nn op : Int) (vn va vb vc : Value) (ns : List (List UInt8)) (a b c : Fx) (w0 : World) (J : Fx × Int → World → Prop) (K : World → Prop) (l : Nat) (p0 lo : Int) (W : World)
    (hM : M ≤ cb) (hMw : M ≤ w0.heap.size) (hown : ownB k s nn op ns a.len b.len c = true) (hcnt : (parts a b c).count ≤ 1048576) (hns : ns.length ≤ 1048576) (hans : ∀ p ∈ pres c, p.cost ≤ 1048576)
    (he : ExL M w0 eb eo k s nn op vn va vb vc ns a b c) (hb1 : w0.cell? ⟨bx1, 0, none⟩ = some (.pointer (some ⟨cb, 0, none⟩))) (hb2 : w0.cell? ⟨bx2, 0, none⟩ = some (.pointer (some ⟨eb, eo, none⟩))) (hne : bx1 ≠ cb ∧ bx2 ≠ cb)
    (hJc : ∀ s W, J s W → Ctr W cb kb x s.2 ∧ Lk cb M bx1 bx2 w0 W ∧ s.2 ≤ 1048576) (hJs : ∀ s W W' p', J s W → Ct cb W W' → Ctr W' cb kb x p' → p' ≤ s.2 → lo ≤ p' → J (s.1, p') W') (hKs : ∀ W W', K W → Ct cb W W' → K W')
    (hY : ∀ t y W, J t W → K W → okPt M w0 (vis x k s ns a b c) lo t y → YieldAt Fence.wide 2 Tryz.prog l y.enc W fun e W' => e = .returned (.bool true) ∧ ∃ t', nxPt t y t' ∧ J t' W' ∧ K W')
    (h0 : J (.nil, p0) W) (hK0 : K W) (hlo : 0 ≤ lo) (hp0 : (ns.length : Int) + b.len + (a.cost + b.cost + c.cost) + lo ≤ p0) (hq : decide (x ∈ ns) = false) (hr : bindsX x b = true) :
    CallsIn Fence.wide 3 Tryz.prog 48 #[.func (.yield l) #[] #[], .pointer (some ⟨bx1, 0, none⟩), .pointer (some ⟨bx2, 0, none⟩)] W fun e W' => (∃ v, e = .returned v) ∧ ∃ t, t.1 = vis x k s ns a b c ∧ J t W' ∧ K W' := by
  obtain ⟨an, cn, rfl⟩ := he.ex.ns.slice
  obtain ⟨aa, ca, rfl⟩ := he.ex.a.slice
  obtain ⟨ab, cb', rfl⟩ := he.ex.b.slice
  obtain ⟨ac, cc, rfl⟩ := he.ex.c.slice
  have hJ0 := hJc _ _ h0
  have HE := Lib.hid he
  have HW0 := Lib.hid hJ0.2.1
  have HEW := Lib.hid (he.lk hJ0.2.1)
  have hp1 : p0 ≤ 1048576 := hJ0.2.2
  have HC0 := Lib.hid hJ0.1
  have hMW : M ≤ W.heap.size := Nat.le_trans hMw hJ0.2.1.size
  have hlen : a.len + b.len + c.len ≤ 1048576 := by have := (parts a b c).len_le; rw [parts_len] at this; omega
  have HO := Lib.hid (own_no hown)
  have HJ0 := Lib.hid h0
  have HK0 := Lib.hid hK0
  have HC := Lib.hid (show ∀ w', Lk cb M bx1 bx2 w0 w' → w'.cell? ⟨bx1, 0, none⟩ = some (.pointer (some ⟨cb, 0, none⟩)) ∧ w'.cell? ⟨bx2, 0, none⟩ = some (.pointer (some ⟨eb, eo, none⟩)) ∧ w'.cell? ⟨eb, eo, none⟩ = some (.int .i64 k) ∧ w'.cell? ⟨eb, eo + 1, none⟩ = some (.string (bt s)) ∧ w'.cell? ⟨eb, eo + 4, none⟩ = some (.slice an ns.length cn) ∧ w'.cell? ⟨eb, eo + 5, none⟩ = some (.slice aa a.len ca) ∧ w'.cell? ⟨eb, eo + 6, none⟩ = some (.slice ab b.len cb') ∧ w'.cell? ⟨eb, eo + 7, none⟩ = some (.slice ac c.len cc) from
    fun w' h => ⟨h.cell1.trans hb1, h.cell2.trans hb2, (HE.out.lk h).c0, (HE.out.lk h).c1, (HE.out.lk h).c4, (HE.out.lk h).c5, (HE.out.lk h).c6, (HE.out.lk h).c7⟩)
  obtain ⟨e1, e2, _, _, e4, _, e6, _⟩ := HC.out _ HW0.out
  have hp00 : 0 ≤ p0 := by omega
  have hw0W := HW0.out.size
  clear hJ0 he h0 hK0 hown hb1 hb2 hne
  obtain ⟨hk6, hcn, hv⟩ := hid_vis (s := s) (nn := nn) (op := op) HO.out (by rw [hr, Bool.or_true])
  have HV := Lib.hid hv
  subst hcn
  clear hv HO
  refine callsIn_of_wp Tryz.func48 rfl trivial ?_ rfl
  simp only [Tryz.ntmps48, List.size_toArray, List.length_cons, List.length_nil, Nat.reduceAdd, Nat.reduceSub, Array.replicate_succ, Array.replicate_zero, List.push_toArray, List.append_toArray, List.nil_append, List.cons_append]
  gi_wp2_with fail
  refine wpIn_wide.2 ?_
  go_region_held3 (fun w' => w'.cell? ⟨bx1, 0, none⟩ = some (.pointer (some ⟨cb, 0, none⟩)) ∧ w'.cell? ⟨bx2, 0, none⟩ = some (.pointer (some ⟨eb, eo, none⟩)) ∧ w'.cell? ⟨eb, eo + 4, none⟩ = some (.slice an ns.length cn) ∧ w'.cell? ⟨eb, eo + 6, none⟩ = some (.slice ab b.len cb'))
    (first
      | exact (have q := HC.out _ HT6.out.1; ⟨q.1, q.2.1, q.2.2.2.2.1, q.2.2.2.2.2.2.1⟩)
      | exact (have q := HC.out _ HT5.out.1; ⟨q.1, q.2.1, q.2.2.2.2.1, q.2.2.2.2.2.2.1⟩)
      | with_reducible exact (have q := HC.out _ (HW0.out.ct (Ct.drew cb W)); ⟨q.1, q.2.1, q.2.2.2.2.1, q.2.2.2.2.2.2.1⟩)
      | (go_keep; done))
    (first
      | (go_at_call 49; have hcon := among_any cb kb _ ns x p0 _ M hns (HEW.out.ex.ns.keep (keep_ct (Ct.drew cb W) hM hMW)) hM hMW HC0.out.drew ⟨hp00, hp1⟩; rw [hq] at hcon; refine hcon.mono ?_; clear hcon; rintro e w5 ⟨rfl, ct5, cr5⟩; have HT5 := Lib.hid (And.intro (HW0.out.ct ((Ct.drew cb W).trans ct5)) cr5); have HS5 := Lib.hid ((Ct.drew cb W).trans ct5); clear ct5 cr5)
      | (go_at_call 50; have hcon := isbound_any cb kb _ b x _ _ M (by omega) (HEW.out.ex.b.keep (keep_ct HS5.out hM hMW)) hM (Nat.le_trans hMW HS5.out.size) HT5.out.2 (by omega); rw [hr] at hcon; refine hcon.mono ?_; clear hcon; rintro e w6 ⟨rfl, ct6, cr6⟩; have HT6 := Lib.hid (And.intro (HT5.out.1.ct ct6) cr6); have HS6 := Lib.hid (HS5.out.trans ct6); clear ct6 cr6))
  obtain ⟨g1, g2, g0, _, _, _, _, g7⟩ := HC.out _ HT6.out.1
  gi_wp2_with fail
  refine wpIn_wide.2 ?_
  go_quiet (fail)
  gi_wp2_with fail
  gi_loopw [81] (fun i wr => i = .int .i64 0 ∧ Ct cb W wr ∧ Ctr wr cb kb x (p0 - ns.length - b.len)) (fun _ _ => 0)
  case atStart => exact ⟨rfl, HS6.out.same rfl rfl rfl rfl, HT6.out.2⟩
  case round =>
    obtain ⟨rfl, ct, cr⟩ := hrel
    have HT := Lib.hid (And.intro ct cr)
    clear ct cr
    gi_wp2_with fail
    go_end0
    exact ⟨⟨_, rfl⟩, (.nil, p0 - ns.length - b.len), HV.out.symm, hJs _ _ _ _ HJ0.out HT.out.1 HT.out.2 (by dsimp only; omega) (by omega), hKs _ _ HK0.out HT.out.1⟩
end Go.Proofs.YtfcogjlojfcfkaaGreat
