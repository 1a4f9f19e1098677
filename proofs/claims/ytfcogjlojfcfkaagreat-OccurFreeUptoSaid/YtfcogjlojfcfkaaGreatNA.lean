/- Looking at the alternatives of a Case, given what is so for smaller expressions; looking at every expression. Bounds on names and on how many there are. -/
import Derived.Test.YtfcogjlojfcfkaaGreatMZ
import Derived.Test.YtfcogjlojfcfkaaGreatMW
section
namespace Go.Proofs.YtfcogjlojfcfkaaGreat
open Go.RowKit Ex0 Go.Maps
attribute [local go_sem] bt_size bt_list bt_toList

theorem nm_alt {f r x y z : Fx} {k' : Int} {s' : List UInt8} {n' : Int} {ns' : List (List UInt8)} {k : Int} {s : List UInt8} {n op : Int} {ns : List (List UInt8)} (h : nmF (f.app (.cons (.alt k' s' n' ns') k s n op ns x y z r)) = true) : ∀ q ∈ ns', q.length ≤ maxLen := by
  rw [nmF_app] at h
  simp only [nmF, Bool.and_eq_true, altBinds, List.all_eq_true, decide_eq_true_eq] at h
  exact h.2.1.1.1.1.1.2
theorem fvF_alt (x : List UInt8) (f : Fx) (k' : Int) (s' : List UInt8) (n' : Int) (ns' : List (List UInt8)) (k : Int) (s : List UInt8) (n op : Int) (ns : List (List UInt8)) (a b c : Fx) :
    fvF x true (f.app (.cons (.alt k' s' n' ns') k s n op ns a b c .nil)) = (fvF x true f || (!decide (x ∈ ns') && fvE x k s ns a b c)) := by
  rw [fvF_app]
  simp only [fvF, fvE, altBinds, Bool.true_and, Bool.or_false, decide_eq_true_eq]
  rfl
theorem open_one {cnt : List UInt8 → Int} {l : List (List UInt8)} (hc : ∀ x, 0 ≤ cnt x) (x : List UInt8) : decide (cnt x + 1 * (occ x l : Int) = 0) = (decide (cnt x = 0) && !decide (x ∈ l)) := by
  have h2 := occ_mem x l
  have h3 := hc x
  by_cases b : x ∈ l
  · have : occ x l ≠ 0 := fun e => h2.1 e b
    simp [b]; omega
  · have e2 := h2.2 b
    simp [b, e2]
theorem open_if {cnt : List UInt8 → Int} (hc : ∀ x, 0 ≤ cnt x) (s x : List UInt8) : decide ((if x = s then cnt s + 1 else cnt x) = 0) = (decide (cnt x = 0) && !decide (x = s)) := by
  have h3 := hc s
  by_cases b : x = s
  · simp [b]; omega
  · simp [b]

set_option maxHeartbeats 4000000 in
set_option maxRecDepth 100000 in
theorem alt_step (M fd ob fb n : Nat) (hM1 : M ≤ ob) (hM2 : M ≤ fb) (IH : LookC M fd ob fb n) : AltC M fd ob fb n := by
  intro bk of s nn op vn va vb vc ns a b c W cnt F N hn hX hMW hS hnm hN hc hce
  obtain ⟨ac, cc, rfl⟩ := hX.ex.c.slice
  have HX := Lib.hid hX
  have HS := Lib.hid hS
  have HNm := Lib.hid hnm
  have hcE : costE ns a b c = 1 + ns.length + b.len + (a.cost + b.cost + c.cost) := rfl
  have hlenc : c.len ≤ 1048576 := by have := len_cost c; omega
  have hsl : s.length ≤ maxLen := by
    have := HNm.out
    unfold nmE at this
    simp only [Bool.and_eq_true, decide_eq_true_eq] at this
    exact this.1.1.1.1
  have HC := Lib.hid (show ∀ w', Two ob fb W w' → ExL M w' bk of 6 s nn op vn va vb (.slice ac c.len cc) ns a b c from fun w' t => HX.out.two t hM1 hM2 hMW)
  have hcs := hc s
  have hw1 : IntKind.i64.wrap (cnt s + 1) = cnt s + 1 := by rw [IntKind.wrap_i64]; omega
  have hf0 := cell_of hS.fd.cells 0 _ rfl
  have hlk := (show OpenAt W.drew ob N cnt from let ⟨D, a, b, c⟩ := HS.out.op; ⟨D, a, b, c⟩).look s hsl
  obtain ⟨W1, hrun, ho1, hg1⟩ := (show OpenAt W.drew ob N cnt from let ⟨D, a, b, c⟩ := HS.out.op; ⟨D, a, b, c⟩).put s hsl (cnt s + 1) (wf_int _ (by omega) (by omega)) (by unfold maxLen; omega)
  have hg1' : W.grownBy W1 (some ob) := ⟨hg1.os, hg1.tape, hg1.output, hg1.size, hg1.block⟩
  obtain ⟨cnt1, hc1⟩ : ∃ cnt1 : List UInt8 → Int, (fun x => if x = s then cnt s + 1 else cnt x) = cnt1 := ⟨_, rfl⟩
  rw [hc1] at ho1
  have HS1 := Lib.hid (HS.out.turn ho1 hg1' (Nat.le_succ N))
  have HT1 := Lib.hid (show Two ob fb W W1 from Two.ob hg1')
  have HE1 := Lib.hid hc1
  have HCn := Lib.hid (show ∀ x, 0 ≤ cnt1 x ∧ cnt1 x ≤ cnt x + 1 from fun x => by
    rw [← hc1]
    have := hc x
    dsimp only
    by_cases h : x = s
    · subst h; rw [if_pos rfl]; omega
    · rw [if_neg h]; omega)
  obtain ⟨_, e0, e1, e2, e3, e4, e5, e6, e7, _⟩ := hX
  clear hS hnm ho1 hg1 hg1' hc1
  go_enter Tryz.func82, Tryz.ntmps82
  go_wp2_with fail
  refine region_one 10 (by kernel_rfl) (by kernel_rfl) ?_
  simp only [List.take_succ_cons, List.take_zero, List.drop_succ_cons, List.drop_zero]
  refine swk_want (by rfl) (fun K hK => ?_)
  replace hK := Lib.hid hK
  go_simp
  refine hK.out _ ?_
  clear hK K
  refine swk_want (by rfl) (fun K hK => ?_)
  replace hK := Lib.hid hK
  go_simp
  refine hK.out _ ?_
  clear hK K
  refine swk_want (by rfl) (fun K hK => ?_)
  replace hK := Lib.hid hK
  go_simp
  refine hK.out _ ?_
  clear hK K
  refine swk_want (by rfl) (fun K hK => ?_)
  replace hK := Lib.hid hK
  go_simp
  refine hK.out _ ?_
  clear hK K
  refine swk_want (by rfl) (fun K hK => ?_)
  replace hK := Lib.hid hK
  go_simp
  refine hK.out _ ?_
  clear hK K
  refine swk_want (by rfl) (fun K hK => ?_)
  replace hK := Lib.hid hK
  go_simp
  refine hK.out _ ?_
  clear hK K
  refine swk_want (by rfl) (fun K hK => ?_)
  replace hK := Lib.hid hK
  go_simp
  refine hK.out _ ?_
  clear hK K
  refine swk_want (by rfl) (fun K hK => ?_)
  replace hK := Lib.hid hK
  go_simp
  refine hK.out _ ?_
  clear hK K
  refine swk_want (by rfl) (fun K hK => ?_)
  replace hK := Lib.hid hK
  go_simp
  refine hK.out _ ?_
  clear hK K
  refine swk_want (by rfl) (fun K hK => ?_)
  replace hK := Lib.hid hK
  go_simp
  refine hK.out _ ?_
  clear hK K
  refine swk_nil ?_
  refine one_want rfl (by rfl) (fun K hK => ?_)
  replace hK := Lib.hid hK
  go_simp
  refine hK.out _ _ ?_
  clear hK K
  simp only [List.take_succ_cons, List.take_zero, List.drop_succ_cons, List.drop_zero]
  refine swk_nil ?_
  clear hrun hlk hf0 e0 e1 e2 e3 e4 e5 e6 e7
  obtain ⟨_, e0, e1, e2, e3, e4, e5, e6, e7, _⟩ := HC.out W1 HT1.out
  go_wp2_with fail
  go_loopw [21] (fun i wr => ∃ f1 f2 : Fx, c = f1.app f2 ∧ i = .int .i64 f1.len ∧ FSt wr fd ob fb (N + 1 + 3 * f1.cost) cnt1 (fun x => F x || (decide (cnt1 x = 0) && fvF x true f1)) ∧ Two ob fb W wr) (fun i _ => c.len - (intOf i).toNat)
  case atStart => exact ⟨.nil, c, rfl, rfl, by have := HS1.out; simpa [fvF, Fx.cost] using this, HT1.out⟩
  case round =>
    clear HS1 HT1 e0 e1 e2 e3 e4 e5 e6 e7
    obtain ⟨f1, f2, hf, rfl, hst, ht⟩ := hrel
    have HF := Lib.hid hf
    have HR := Lib.hid hst
    have HT := Lib.hid ht
    clear hf hst ht
    obtain ⟨_, e0, e1, e2, e3, e4, e5, e6, e7, _⟩ := HC.out wr HT.out
    by_cases hlt : f1.len < c.len
    · obtain ⟨p1, k1, s1, n1, op1, ns1, x, y, z, r1, rfl⟩ := fx_cons_of HF.out hlt
      obtain ⟨bb, oo, wn, wa, wb, wc, hv, hbb, hlc, hcm, _, hpre, c0, c1, c2, c3, c4, c5, c6, c7, hx⟩ := fx_at (HC.out wr HT.out).ex.c HF.out
      cases hv
      cases p1 with
      | no => exact absurd hpre (by simp [PreAt])
      | bind s2 => exact absurd hpre.1 (by decide)
      | alt k2 s2 n2 ns2 =>
        obtain ⟨_, _, _, _, v2, hv3, hns2⟩ := hpre
        obtain ⟨a2, c2', rfl⟩ := hns2.slice
        have HQ := Lib.hid (show ∀ w', Two ob fb wr w' → ExL M w' bb (oo + f1.len * 12 + 4) k1 s1 n1 op1 wn wa wb wc ns1 x y z ∧ w'.cell? ⟨bb, oo + f1.len * 12 + 3, none⟩ = some (.slice a2 ns2.length c2') ∧ NsV (Old M) w' (.slice a2 ns2.length c2') ns2 from fun w' t =>
          have q := t.keep hM1 hM2 (Nat.le_trans hMW HT.out.size)
          ⟨ExL.two ⟨hbb, c0, c1, c2, c3, c4, c5, c6, c7, hx⟩ t hM1 hM2 (Nat.le_trans hMW HT.out.size), ((q bb hbb).2 _).trans hv3, hns2.keep q⟩)
        have g3 := hv3
        unfold maxLen at hcm
        have hca := congrArg Fx.count HF.out
        rw [Fx.count_app] at hca
        simp only [Fx.count] at hca
        have hco := congrArg Fx.cost HF.out
        rw [cost_app] at hco
        have hcc : (Fx.cons (.alt k2 s2 n2 ns2) k1 s1 n1 op1 ns1 x y z r1).cost = Pre.cost (.alt k2 s2 n2 ns2) + costE ns1 x y z + r1.cost := rfl
        have hpc : Pre.cost (.alt k2 s2 n2 ns2) = ns2.length := rfl
        have hcu := parts_count x y z
        have hcu2 := parts_count a b c
        have hnmc : nmF (f1.app (.cons (.alt k2 s2 n2 ns2) k1 s1 n1 op1 ns1 x y z r1)) = true := by have h := HNm.out; unfold nmE at h; simp only [Bool.and_eq_true] at h; rw [← HF.out]; exact h.2
        have HNc := Lib.hid hnmc
        clear c0 c1 c2 c3 c4 c5 c6 c7 hx hv3 hns2 hnmc
        go_wp2_with fail
        go_at_call 80
        refine (bind_any fd ob fb (N + 1 + 3 * f1.cost) M cnt1 ns2 _ 1 wr HR.out.fd HR.out.op hM1 (HQ.out wr (Two.refl _ _ _)).2.2 (Nat.le_trans hMW HT.out.size) (by omega) (by omega) (nm_alt HNc.out) (.inl rfl) (fun q => by have := HCn.out q; have := hc q; omega)).mono ?_
        rintro e w2 ⟨⟨v2, rfl⟩, ho2, hg2⟩
        have HS2 := Lib.hid (HR.out.turn ho2 hg2 (by omega))
        have HT2 := Lib.hid (Two.ob (fb := fb) hg2)
        clear ho2 hg2 g3
        have g3 := (HQ.out w2 HT2.out).2.1
        go_wp2_with fail
        go_at_call 57
        refine (IH bb (oo + f1.len * 12 + 4) k1 s1 n1 op1 _ _ _ _ ns1 x y z w2 _ _ _ (by omega) (HQ.out w2 HT2.out).1 (Nat.le_trans (Nat.le_trans hMW HT.out.size) HT2.out.size) HS2.out (nm_part HNc.out) (by omega) (fun q => by have := HCn.out q; have := hc q; have := occ_le q ns2; omega) (by omega)).mono ?_
        rintro e w3 ⟨⟨v3, rfl⟩, hs3, ht3⟩
        have HS3 := Lib.hid hs3
        have HT3 := Lib.hid (HT2.out.trans ht3)
        clear hs3 ht3 g3
        have g3 := (HQ.out w3 HT3.out).2.1
        go_wp2_with fail
        go_at_call 80
        refine (bind_any fd ob fb _ M _ ns2 _ (-1) w3 HS3.out.fd HS3.out.op hM1 (HQ.out w3 HT3.out).2.2 (Nat.le_trans (Nat.le_trans hMW HT.out.size) HT3.out.size) (by omega) (by omega) (nm_alt HNc.out) (.inr rfl) (fun q => by have := HCn.out q; have := hc q; have := occ_le q ns2; omega)).mono ?_
        rintro e w4 ⟨⟨v4, rfl⟩, ho4, hg4⟩
        have hback : (fun q => cnt1 q + 1 * (occ q ns2 : Int) + -1 * (occ q ns2 : Int)) = cnt1 := by funext q; omega
        have h4 := HS3.out.turn ho4 hg4 (Nat.le_add_right _ _)
        rw [hback] at h4
        have HS4 := Lib.hid h4
        have HT4 := Lib.hid (HT.out.trans (HT3.out.trans (Two.ob hg4)))
        clear ho4 hg4 h4 hback g3
        go_wp2_with fail
        go_roundw
        case rel =>
          refine ⟨f1.app (.cons (.alt k2 s2 n2 ns2) k1 s1 n1 op1 ns1 x y z .nil), r1, by rw [Fx.app_app]; exact HF.out, by rw [Fx.len_app]; simp only [Fx.len]; go_num, ?_, HT4.out⟩
          have e : (fun q => (F q || (decide (cnt1 q = 0) && fvF q true f1)) || (decide (cnt1 q + 1 * (occ q ns2 : Int) = 0) && fvE q k1 s1 ns1 x y z)) = fun q => F q || (decide (cnt1 q = 0) && fvF q true (f1.app (.cons (.alt k2 s2 n2 ns2) k1 s1 n1 op1 ns1 x y z .nil))) := by
            funext q
            rw [open_one (fun q => (HCn.out q).1) q, fvF_alt, Bool.or_assoc, Bool.and_assoc, ← Bool.and_or_distrib_left]
          have h5 := HS4.out
          rw [e] at h5
          have e2 : (f1.app (.cons (.alt k2 s2 n2 ns2) k1 s1 n1 op1 ns1 x y z .nil)).cost = f1.cost + (ns2.length + costE ns1 x y z + 0) := by rw [cost_app]; rfl
          exact h5.mono (by rw [e2]; omega)
        case measure => simp [intOf]; omega
    · obtain rfl : f2 = .nil := fx_nil_of HF.out hlt
      have hfa := HF.out
      rw [Fx.app_nil] at hfa
      subst hfa
      have hc1s : cnt1 s = cnt s + 1 := by rw [← HE1.out]; simp
      have hf0 := cell_of HR.out.fd.cells 0 _ rfl
      have hw2 : IntKind.i64.wrap (cnt1 s - 1) = cnt1 s - 1 := by rw [IntKind.wrap_i64]; omega
      have hlk := (show OpenAt wr.drew ob (N + 1 + 3 * c.cost) cnt1 from let ⟨D, a, b, c⟩ := HR.out.op; ⟨D, a, b, c⟩).look s hsl
      obtain ⟨W5, hrun, ho5, hg5⟩ := (show OpenAt wr.drew ob (N + 1 + 3 * c.cost) cnt1 from let ⟨D, a, b, c⟩ := HR.out.op; ⟨D, a, b, c⟩).put s hsl (cnt1 s - 1) (wf_int _ (by omega) (by omega)) (by unfold maxLen; omega)
      have hg5' : wr.grownBy W5 (some ob) := ⟨hg5.os, hg5.tape, hg5.output, hg5.size, hg5.block⟩
      have hback : (fun x => if x = s then cnt1 s - 1 else cnt1 x) = cnt := by
        funext x
        rw [← HE1.out]
        by_cases h : x = s
        · subst h; simp
        · simp [h]
      rw [hback] at ho5
      have HS5 := Lib.hid (HR.out.turn ho5 hg5' (Nat.le_succ _))
      have HT5 := Lib.hid (HT.out.trans (Two.ob hg5'))
      clear ho5 hg5 hg5' hback hc1s
      go_wp2_with fail
      refine region_one 10 (by kernel_rfl) (by kernel_rfl) ?_
      simp only [List.take_succ_cons, List.take_zero, List.drop_succ_cons, List.drop_zero]
      refine swk_want (by rfl) (fun K hK => ?_)
      replace hK := Lib.hid hK
      go_simp
      refine hK.out _ ?_
      clear hK K
      refine swk_want (by rfl) (fun K hK => ?_)
      replace hK := Lib.hid hK
      go_simp
      refine hK.out _ ?_
      clear hK K
      refine swk_want (by rfl) (fun K hK => ?_)
      replace hK := Lib.hid hK
      go_simp
      refine hK.out _ ?_
      clear hK K
      refine swk_want (by rfl) (fun K hK => ?_)
      replace hK := Lib.hid hK
      go_simp
      refine hK.out _ ?_
      clear hK K
      refine swk_want (by rfl) (fun K hK => ?_)
      replace hK := Lib.hid hK
      go_simp
      refine hK.out _ ?_
      clear hK K
      refine swk_want (by rfl) (fun K hK => ?_)
      replace hK := Lib.hid hK
      go_simp
      refine hK.out _ ?_
      clear hK K
      refine swk_want (by rfl) (fun K hK => ?_)
      replace hK := Lib.hid hK
      go_simp
      refine hK.out _ ?_
      clear hK K
      refine swk_want (by rfl) (fun K hK => ?_)
      replace hK := Lib.hid hK
      go_simp
      refine hK.out _ ?_
      clear hK K
      refine swk_want (by rfl) (fun K hK => ?_)
      replace hK := Lib.hid hK
      go_simp
      refine hK.out _ ?_
      clear hK K
      refine swk_want (by rfl) (fun K hK => ?_)
      replace hK := Lib.hid hK
      go_simp
      refine hK.out _ ?_
      clear hK K
      refine swk_nil ?_
      refine one_want rfl (by rfl) (fun K hK => ?_)
      replace hK := Lib.hid hK
      go_simp
      refine hK.out _ _ ?_
      clear hK K
      simp only [List.take_succ_cons, List.take_zero, List.drop_succ_cons, List.drop_zero]
      refine swk_nil ?_
      go_wp2_with fail
      go_end0
      refine ⟨⟨_, rfl⟩, ?_, HT5.out⟩
      have e : (fun x => F x || (decide (cnt1 x = 0) && fvF x true c)) = fun x => F x || (decide (cnt x = 0) && (!decide (x = s) && fvF x true c)) := by
        funext x
        rw [← HE1.out]
        dsimp only
        rw [open_if (fun x => (hc x).1) s x, Bool.and_assoc]
      have h5 := HS5.out
      rw [e] at h5
      exact h5.mono (by omega)

theorem look_any (M fd ob fb : Nat) (hM1 : M ≤ ob) (hM2 : M ≤ fb) (n : Nat) : LookC M fd ob fb n := by
  induction n with
  | zero => intro bk of k s nn op vn va vb vc ns a b c W cnt F N hn; omega
  | succ n ih => exact look_step M fd ob fb n hM1 hM2 ih (alt_step M fd ob fb n hM1 hM2 ih)
end Go.Proofs.YtfcogjlojfcfkaaGreat
end

section
namespace Go.Proofs.YtfcogjlojfcfkaaGreat
section
open Go.RowKit Ex0 Go.Maps Go.Sort Go.Shelf
attribute [local go_sem] bt_size bt_list bt_toList

theorem mem_keys {H : Type} {w : World} {P : Program} {k : TypeId} {R : Value → Option (DataW H × List MemPlace)} {b n : Nat} {D0 : DataW H} (hown : w.ownsMap P k R b n D0) (hk : P.underlying k = some .string) (x : List UInt8) : x ∈ strKeys D0 ↔ Maps.has D0 (.string x) = true := by
  obtain ⟨es, rfl, hko⟩ := hown.keysOf
  have hs : ∀ p ∈ es, ∃ y, p.1 = .string y := fun p hp => by
    obtain ⟨v, hv⟩ := hko p hp
    obtain ⟨y, _, hy, _⟩ := Maps.keyOf_str hk hv
    exact ⟨y, hy⟩
  rw [has_eq, List.any_eq_true]
  show x ∈ es.map (fun p => strOf p.1) ↔ _
  rw [List.mem_map]
  constructor
  · rintro ⟨p, hp, rfl⟩
    obtain ⟨a, ha⟩ := hs p hp
    exact ⟨p, hp, by rw [ha]; simp [Lit.sameKey, strOf]⟩
  · rintro ⟨p, hp, h⟩
    obtain ⟨a, ha⟩ := hs p hp
    rw [ha] at h
    exact ⟨p, hp, by rw [ha]; simpa [Lit.sameKey, strOf] using h⟩

/-- All blocks that are new. -/
def New (W w' : World) : Nat → Prop := fun b => W.heap.size ≤ b ∧ b < w'.heap.size
theorem ns_of_row_new {w : World} {base : Nat} {E : TypeId} {v : Value} {ss : List (List UInt8)} (h : w.ownsRow base E 1 v ss.length (ss.map encStr)) {ok : Nat → Prop} (hok : ∀ b, base ≤ b → b < w.heap.size → ok b) : NsV ok w v ss := by
  have h0 := ns_of_row h
  rcases h0 with h0 | ⟨hn, g, o, c, rfl, _, h1, h2, h3⟩
  · exact .inl h0
  · exact .inr ⟨hn, g, o, c, rfl, hok g (h.lt g rfl).1 (h.lt g rfl).2, h1, h2, h3⟩
theorem nsv_weak {ok ok' : Nat → Prop} {w : World} {v : Value} {ss : List (List UInt8)} (h : NsV ok w v ss) (hok : ∀ b, ok b → ok' b) : NsV ok' w v ss := h.keep (keep_le w hok)
/-- What a finder answers. -/
def FreePost (G : List UInt8 → Bool) (W : World) (v : Value) (w' : World) : Prop := ∃ ss : List (List UInt8), NsV (New W w') w' v ss ∧ (∀ x, x ∈ ss ↔ G x = true) ∧ (∀ x ∈ ss, x.length ≤ maxLen) ∧ Below W.heap.size W w'

set_option maxHeartbeats 2000000 in
theorem freeIn_any (M bk of : Nat) (k : Int) (s : List UInt8) (nn op : Int) (vn va vb vc : Value) (ns : List (List UInt8)) (a b c : Fx) (W : World) (h : ExL M W bk of k s nn op vn va vb vc ns a b c) (hMW : M ≤ W.heap.size) (hnm : nmE s ns a b c = true) (hce : costE ns a b c ≤ 1048576) :
    Calls Tryz.prog 29 #[.pointer (some ⟨bk, of, none⟩)] W fun e w' => ∃ v, e = .returned v ∧ FreePost (fun x => fvE x k s ns a b c) W v w' := by
  have HL := Lib.hid h
  have hmm := @run_makeMap Tryz.prog
  clear h
  go_enter Tryz.func29, Tryz.ntmps29
  go_wp2_with fail
  go_at_call 57
  obtain ⟨W1, hW1⟩ : ∃ W1, W1 = (((W.alloc (.map #[] 0)).alloc (.map #[] 0)).alloc (.cells #[.map (some W.heap.size), .map (some (W.heap.size + 1))] 129)) := ⟨_, rfl⟩
  have hb1 : Below W.heap.size W W1 := by
    rw [hW1]
    exact ((below_alloc' _ _).alloc (by simp) _).alloc (by simp <;> omega) _
  have hf1 : W1.ownsMap Tryz.prog 9 (unitElem (H := Unit)) (W.heap.size + 1) 0 (.map []) := by
    rw [hW1]
    have := (World.ownsMap_made (W.alloc (.map #[] 0)) Tryz.prog 9 (unitElem (H := Unit))).alloc (.cells #[.map (some W.heap.size), .map (some (W.heap.size + 1))] 129)
    simpa using this
  have ho1 : W1.ownsMap Tryz.prog 9 (plainElem (H := Unit) Tryz.prog 3) W.heap.size 0 (.map []) := by
    rw [hW1]
    exact ((World.ownsMap_made W Tryz.prog 9 (plainElem (H := Unit) Tryz.prog 3)).alloc (.map #[] 0)).alloc (.cells #[.map (some W.heap.size), .map (some (W.heap.size + 1))] 129)
  have hd1 : W1.heap[W.heap.size + 1 + 1]? = some (.cells #[.map (some W.heap.size), .map (some (W.heap.size + 1))] 129 (0, 0)) := by
    rw [hW1]
    have := World.alloc_heap_new ((W.alloc (.map #[] 0)).alloc (.map #[] 0)) (.cells #[.map (some W.heap.size), .map (some (W.heap.size + 1))] 129)
    simpa using this
  have hF : FSt W1 (W.heap.size + 1 + 1) W.heap.size (W.heap.size + 1) 0 (fun _ => 0) (fun _ => false) := ⟨⟨hd1, by omega, by omega, by omega⟩, ⟨.map [], ho1, ⟨_, rfl⟩, fun _ => rfl⟩, ⟨.map [], hf1, ⟨_, rfl⟩, fun _ => rfl⟩⟩
  have hcon := look_any M (W.heap.size + 1 + 1) W.heap.size (W.heap.size + 1) hMW (by omega) ((parts a b c).count + 1) bk of k s nn op vn va vb vc ns a b c W1 (fun _ => 0) (fun _ => false) 0 (by omega) (HL.out.grow (grow_none hb1) (fun q e => by cases e) hMW) (Nat.le_trans hMW hb1.size) hF hnm (by omega) (fun x => ⟨Int.le_refl _, by omega⟩) hce
  rw [hW1] at hcon
  refine hcon.mono ?_
  rw [← hW1]
  clear hcon hF hf1 ho1 hd1 hW1
  rintro e w1 ⟨⟨v1, rfl⟩, hF, hT⟩
  have hB1 : Below W.heap.size W w1 := hb1.trans ⟨hT.os, hT.tape, hT.output, hT.size, fun i hi => hT.block i (Nat.lt_of_lt_of_le hi hb1.size) (by omega) (by omega)⟩
  have hc1 : w1.cell? ⟨W.heap.size + 1 + 1, 1, none⟩ = some (.map (some (W.heap.size + 1))) := cell_of hF.fd.cells 1 _ rfl
  obtain ⟨D, hown, _, hhas⟩ := hF.fo
  have hsz := hown.size_le
  have HD := Lib.hid (And.intro hown hhas)
  clear hT hF hb1 hhas HL
  go_wp2_with fail
  go_at_call 53
  refine (keys_any _ _).mono ?_
  rintro e w2 ⟨rfl, rfl⟩
  go_wp2_with fail
  go_at_call 52
  refine (sorted_any _ _ _ _ w1 hown (by unfold maxLen; omega) (by omega)).mono ?_
  rintro e w3 ⟨v3, ss, rfl, hp, hrow, _, hb3⟩
  go_wp2_with fail
  go_ret
  have hlen : ss.length = (ss.mergeSort (fun x y => decide (x ≤ y))).length := by rw [List.length_mergeSort]
  rw [hlen] at hrow
  have hmem : ∀ x, x ∈ ss.mergeSort (fun x y => decide (x ≤ y)) ↔ x ∈ strKeys D := fun x => by rw [List.mem_mergeSort]; exact hp.mem_iff
  refine ⟨_, rfl, _, ns_of_row_new hrow (fun b h1 h2 => ⟨by simp at h1; have := hB1.size; omega, h2⟩), fun x => ?_, fun x hx => strKeys_le HD.out.1 (by kernel_rfl) x ((hmem x).1 hx), (hB1.alloc hB1.size _).trans (hb3.mono (by simp; have := hB1.size; omega))⟩
  rw [hmem, mem_keys HD.out.1 (by kernel_rfl), HD.out.2]
  simp

set_option maxHeartbeats 1000000 in
theorem mfree_any (M mb kb bk of : Nat) (p : Int) (k : Int) (s : List UInt8) (nn op : Int) (vn va vb vc : Value) (ns : List (List UInt8)) (a b c : Fx) (W : World) (H : MHyp M W mb kb p (parts a b c).count ((ownBytes ns b c : Nat) + bytesF (parts a b c))) (hm : MzAt W mb kb p)
    (h : ExL M W bk of k s nn op vn va vb vc ns a b c) (hnm : nmE s ns a b c = true) (hce : costE ns a b c ≤ 1048576) :
    Calls Tryz.prog 18 #[.pointer (some ⟨mb, 0, none⟩), .pointer (some ⟨bk, of, none⟩)] W fun e w' => (∃ v ss, e = .returned (.tuple #[v, .bool true]) ∧ NsV (New W w') w' v ss ∧ (∀ x, x ∈ ss ↔ fvE x k s ns a b c = true) ∧ (∀ x ∈ ss, x.length ≤ maxLen) ∧ W.grownBy w' (some mb)) := by
  have HL := Lib.hid h
  have HM := Lib.hid hm
  have HH := Lib.hid H
  have hMW := H.hMW
  have hMm := H.hM
  clear hm h H
  go_enter Tryz.func18, Tryz.ntmps18
  go_wp2_with fail
  go_at_call 19
  refine (measure_any M mb kb bk of p k s nn op vn va vb vc ns a b c W _ rfl HH.out HM.out HL.out).mono ?_
  rintro e w1 ⟨⟨x0, x1, x2, x3, rfl, hx2e, _⟩, _, hg1⟩
  have hx2 : x2 ≤ 2147483647 := by have := HH.out.hB; omega
  clear hx2e
  have HL1 := Lib.hid (HL.out.grow hg1 (fun q e => by cases e; exact hMm) hMW)
  have hs1 := hg1.size
  have HG1 := Lib.hid hg1
  have hd1 : decide (x2 > 2147483647) = false := decide_eq_false (by omega)
  have hd2 : decide (2147483647 < x2) = false := decide_eq_false (by omega)
  clear hg1
  go_wp2_with fail
  go_at_call 29
  refine (freeIn_any M bk of k s nn op vn va vb vc ns a b c _ (HL1.out.grow (below_grow' (row := none) (below_alloc' _ _)) (fun q e => by cases e) (by omega)) (by simp; omega) hnm hce).mono ?_
  rintro e w2 ⟨v2, rfl, ss, hv, hms, hml, hb2⟩
  have HV := Lib.hid (And.intro hv (And.intro hms (And.intro hml hb2)))
  clear hv hms hml hb2
  go_wp2_with fail
  go_ret2
  exact ⟨_, ss, rfl, nsv_weak HV.out.1 (fun q hq => ⟨by have := hq.1; simp at this; omega, hq.2⟩), HV.out.2.1, HV.out.2.2.1, grow_far (grow_far HG1.out (below_grow' (row := none) (below_alloc' _ _)) (fun q e => by cases e)) (below_grow' (row := none) HV.out.2.2.2) (fun q e => by cases e)⟩

set_option maxHeartbeats 1000000 in
theorem free_any (k : Int) (s : List UInt8) (nn op : Int) (vn va vb vc : Value) (ns : List (List UInt8)) (a b c : Fx) (W : World) (hx : ExV (Old W.heap.size) W vn va vb vc ns a b c) (hnm : nmE s ns a b c = true) (hce : costE ns a b c ≤ 1048576) (hcnt : (parts a b c).count + 1 ≤ 131072)
    (hby : ownBytes ns b c + bytesF (parts a b c) ≤ 2147483647) :
    Calls Tryz.prog 8 #[exV k s nn op vn va vb vc] W fun e w' => ∃ v, e = .returned v ∧ FreePost (fun x => fvE x k s ns a b c) W v w' := by
  have HX := Lib.hid hx
  obtain ⟨an, cn, rfl⟩ := hx.ns.slice
  obtain ⟨aa, ca, rfl⟩ := hx.a.slice
  obtain ⟨ab, cb, rfl⟩ := hx.b.slice
  obtain ⟨ac, cc, rfl⟩ := hx.c.slice
  clear hx
  unfold exV
  go_enter Tryz.func8, Tryz.ntmps8
  go_wp2_with fail
  go_at_call 17
  refine (newMeasurer_c _ _).mono ?_
  rintro e w1 ⟨rfl, rfl⟩
  go_wp2_with fail
  go_at_call 18
  obtain ⟨W1, hW1⟩ : ∃ W1, W1 = ((W.alloc (exBox k s nn op (.slice an ns.length cn) (.slice aa a.len ca) (.slice ab b.len cb) (.slice ac c.len cc))).alloc (.map #[] 0)).alloc (.cells #[.int .i64 1048576, .map (some (W.heap.size + 1)), .slice none 0 0] 78) := ⟨_, rfl⟩
  have hbx : Below (W.heap.size + 1) (W.alloc (exBox k s nn op (.slice an ns.length cn) (.slice aa a.len ca) (.slice ab b.len cb) (.slice ac c.len cc))) W1 := by
    subst hW1
    exact ((Below.refl _ _).alloc (by simp) _).alloc (by simp <;> omega) _
  have hb0 : Below W.heap.size W W1 := by
    subst hW1
    exact ((below_alloc' _ _).alloc (by simp) _).alloc (by simp <;> omega) _
  have hmz : MzAt W1 (W.heap.size + 1 + 1) (W.heap.size + 1) 1048576 := by
    subst hW1
    have := World.alloc_heap_new ((W.alloc (exBox k s nn op (.slice an ns.length cn) (.slice aa a.len ca) (.slice ab b.len cb) (.slice ac c.len cc))).alloc (.map #[] 0)) (.cells #[.int .i64 1048576, .map (some (W.heap.size + 1)), .slice none 0 0] 78)
    unfold MzAt
    simpa using this
  have hkb : W1.heap[W.heap.size + 1]? = some (.map #[] 0) := by
    subst hW1
    refine (Below.heap_alloc _ _ _ (by simp)).trans ?_
    have := World.alloc_heap_new (W.alloc (exBox k s nn op (.slice an ns.length cn) (.slice aa a.len ca) (.slice ab b.len cb) (.slice ac c.len cc))) (.map #[] 0)
    simpa using this
  have hsz : W1.heap.size = W.heap.size + 1 + 1 + 1 := by subst hW1; simp
  obtain ⟨c0, c1, c2, c3, c4, c5, c6, c7⟩ := exBox_cell (Nat.lt_succ_self _) hbx
  have hex : ExL (W.heap.size + 1) W1 W.heap.size 0 k s nn op (.slice an ns.length cn) (.slice aa a.len ca) (.slice ab b.len cb) (.slice ac c.len cc) ns a b c :=
    ⟨Nat.lt_succ_self _, c0, c1, c2, c3, c4, c5, c6, c7, HX.out.keep (fun q hq => ⟨Nat.lt_succ_of_lt hq, fun o => hb0.cell (p := ⟨q, o, none⟩) hq⟩)⟩
  have hcon := mfree_any (W.heap.size + 1) (W.heap.size + 1 + 1) (W.heap.size + 1) W.heap.size 0 1048576 k s nn op _ _ _ _ ns a b c W1 ⟨by omega, by omega, by omega, hkb, by omega, hcnt, by omega, by omega⟩ hmz hex hnm hce
  rw [hW1] at hcon
  refine hcon.mono ?_
  rw [← hW1]
  clear hcon hex c0 c1 c2 c3 c4 c5 c6 c7 hmz hkb hbx hW1
  rintro e w2 ⟨v2, ss, rfl, hv, hms, hml, hg2⟩
  have HV := Lib.hid (And.intro hv (And.intro hms (And.intro hml (hb0.grown hg2 (by omega) (fun q e => by cases e; omega)))))
  clear hv hms hml hg2 hb0
  go_wp2_with fail
  go_ret
  exact ⟨_, rfl, ss, nsv_weak HV.out.1 (fun q hq => ⟨by have := hq.1; omega, hq.2⟩), HV.out.2.1, HV.out.2.2.1, HV.out.2.2.2⟩
end
end Go.Proofs.YtfcogjlojfcfkaaGreat
end
