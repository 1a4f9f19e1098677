/- Looking for the free names of an expression, given what is so for its parts. Bounds on names and on how many there are. -/
import Derived.Test.YtfcogjlojfcfkaaGreatMV
namespace Go.Proofs.YtfcogjlojfcfkaaGreat
open Go.RowKit Ex0 Go.Maps
attribute [local go_sem] bt_size bt_list bt_toList

/-- Are all names in a row short enough? -/
def nmF : Fx → Bool
  | .nil => true
  | .cons p _ s _ _ ns a b c r => decide (s.length ≤ maxLen) && ns.all (fun x => decide (x.length ≤ maxLen)) && (altBinds p).all (fun x => decide (x.length ≤ maxLen)) && (bnames (.cons p 0 [] 0 0 [] .nil .nil .nil .nil)).all (fun x => decide (x.length ≤ maxLen)) && nmF a && nmF b && nmF c && nmF r
def nmE (s : List UInt8) (ns : List (List UInt8)) (a b c : Fx) : Bool := decide (s.length ≤ maxLen) && ns.all (fun x => decide (x.length ≤ maxLen)) && nmF a && nmF b && nmF c
theorem nmF_app (f g : Fx) : nmF (f.app g) = (nmF f && nmF g) := by
  induction f with
  | nil => rfl
  | cons p k s n op ns a b c r _ _ _ ih => simp only [Fx.app, nmF, ih, Bool.and_assoc]
theorem nm_bnames {b : Fx} (h : nmF b = true) : ∀ x ∈ bnames b, x.length ≤ maxLen := by
  induction b with
  | nil => intro x hx; cases hx
  | cons p k s n op ns a b c r _ _ _ ih =>
    intro x hx
    simp only [nmF, Bool.and_eq_true] at h
    cases p with
    | bind s' =>
      simp only [bnames, List.mem_cons] at hx
      rcases hx with rfl | hx
      · have := h.1.1.1.1.2
        simpa [bnames] using this
      · exact ih h.2 x hx
    | no => exact ih h.2 x hx
    | alt _ _ _ _ => exact ih h.2 x hx

theorem nm_ns {s : List UInt8} {ns : List (List UInt8)} {a b c : Fx} (h : nmE s ns a b c = true) : ∀ x ∈ ns, x.length ≤ maxLen := by
  unfold nmE at h
  simp only [Bool.and_eq_true, List.all_eq_true, decide_eq_true_eq] at h
  exact h.1.1.1.2
theorem nm_bn {s : List UInt8} {ns : List (List UInt8)} {a b c : Fx} (h : nmE s ns a b c = true) : ∀ x ∈ bnames b, x.length ≤ maxLen := by
  unfold nmE at h
  simp only [Bool.and_eq_true] at h
  exact nm_bnames h.1.2
theorem len_cost (f : Fx) : f.len ≤ f.cost := by
  induction f with
  | nil => exact Nat.le_refl _
  | cons p k s n op ns a b c r _ _ _ ih =>
    have : (Fx.cons p k s n op ns a b c r).cost = p.cost + (1 + ns.length + b.len + (a.cost + b.cost + c.cost)) + r.cost := rfl
    simp only [Fx.len]
    omega
theorem nm_part {f r x y z : Fx} {p : Pre} {k : Int} {s : List UInt8} {n op : Int} {ns : List (List UInt8)} (h : nmF (f.app (.cons p k s n op ns x y z r)) = true) : nmE s ns x y z = true := by
  rw [nmF_app] at h
  simp only [nmF, Bool.and_eq_true] at h
  unfold nmE
  simp only [Bool.and_eq_true]
  exact ⟨⟨⟨⟨h.2.1.1.1.1.1.1.1, h.2.1.1.1.1.1.1.2⟩, h.2.1.1.1.2⟩, h.2.1.1.2⟩, h.2.1.2⟩
theorem fvF_one (x : List UInt8) (f : Fx) (p : Pre) (k : Int) (s : List UInt8) (n op : Int) (ns : List (List UInt8)) (a b c : Fx) : fvF x false (f.app (.cons p k s n op ns a b c .nil)) = (fvF x false f || fvE x k s ns a b c) := by
  rw [fvF_app]
  simp [fvF, fvE]
theorem occ_mem (x : List UInt8) (l : List (List UInt8)) : (occ x l = 0) ↔ x ∉ l := by
  unfold occ
  rw [List.countP_eq_zero]
  constructor
  · intro h hx
    exact h x hx (by simp)
  · intro h y hy he
    exact h (by rw [← eq_of_beq he]; exact hy)
theorem open_eq {cnt cnt2 : List UInt8 → Int} {ns l : List (List UInt8)} (h : (fun x => cnt x + 1 * (occ x ns : Int) + 1 * (occ x l : Int)) = cnt2) (hc : ∀ x, 0 ≤ cnt x) (x : List UInt8) :
    decide (cnt2 x = 0) = (decide (cnt x = 0) && !decide (x ∈ ns) && !decide (x ∈ l)) := by
  rw [← h]
  have h1 := occ_mem x ns
  have h2 := occ_mem x l
  have h3 := hc x
  by_cases a : x ∈ ns
  · have : occ x ns ≠ 0 := fun e => h1.1 e a
    simp [a]; omega
  · have e1 := h1.2 a
    by_cases b : x ∈ l
    · have : occ x l ≠ 0 := fun e => h2.1 e b
      simp [a, b]; omega
    · have e2 := h2.2 b
      simp [a, b, e1, e2]
theorem bool_id (f z p i j A C : Bool) : (((f || (z && p)) || ((z && !i && !j) && A)) || (z && C)) = (f || (z && (p || (!i && !j && A) || C))) := by
  cases f <;> cases z <;> cases p <;> cases i <;> cases j <;> cases A <;> cases C <;> rfl
/-- What looking at an expression does. -/
def LookPost (fd ob fb N : Nat) (cnt : List UInt8 → Int) (F G : List UInt8 → Bool) (W : World) (e : Ending) (w' : World) : Prop :=
  (∃ v, e = .returned v) ∧ FSt w' fd ob fb N cnt (fun x => F x || (decide (cnt x = 0) && G x)) ∧ Two ob fb W w'
def LookC (M fd ob fb n : Nat) : Prop := ∀ (bk of : Nat) (k : Int) (s : List UInt8) (nn op : Int) (vn va vb vc : Value) (ns : List (List UInt8)) (a b c : Fx) (W : World) (cnt : List UInt8 → Int) (F : List UInt8 → Bool) (N : Nat),
  (parts a b c).count < n → ExL M W bk of k s nn op vn va vb vc ns a b c → M ≤ W.heap.size → FSt W fd ob fb N cnt F → nmE s ns a b c = true → N + 3 * costE ns a b c ≤ 549755813888 → (∀ x, 0 ≤ cnt x ∧ cnt x + costE ns a b c ≤ 549755813888) →
  costE ns a b c ≤ 1048576 →
  Calls Tryz.prog 57 #[.pointer (some ⟨fd, 0, none⟩), .pointer (some ⟨bk, of, none⟩)] W (LookPost fd ob fb (N + 3 * costE ns a b c) cnt F (fun x => fvE x k s ns a b c) W)
/-- .. at a Case's alternatives. -/
def AltC (M fd ob fb n : Nat) : Prop := ∀ (bk of : Nat) (s : List UInt8) (nn op : Int) (vn va vb vc : Value) (ns : List (List UInt8)) (a b c : Fx) (W : World) (cnt : List UInt8 → Int) (F : List UInt8 → Bool) (N : Nat),
  (parts a b c).count ≤ n → ExL M W bk of 6 s nn op vn va vb vc ns a b c → M ≤ W.heap.size → FSt W fd ob fb N cnt F → nmE s ns a b c = true → N + 2 + 3 * c.cost ≤ 549755813888 → (∀ x, 0 ≤ cnt x ∧ cnt x + costE ns a b c ≤ 549755813888) →
  costE ns a b c ≤ 1048576 →
  Calls Tryz.prog 82 #[.pointer (some ⟨fd, 0, none⟩), .pointer (some ⟨bk, of, none⟩)] W (LookPost fd ob fb (N + 2 + 3 * c.cost) cnt F (fun x => !decide (x = s) && fvF x true c) W)

set_option maxHeartbeats 4000000 in
set_option maxRecDepth 100000 in
theorem look_step (M fd ob fb n : Nat) (hM1 : M ≤ ob) (hM2 : M ≤ fb) (IH : LookC M fd ob fb n) (HA : AltC M fd ob fb n) : LookC M fd ob fb (n + 1) := by
  intro bk of k s nn op vn va vb vc ns a b c W cnt F N hn hX hMW hS hnm hN hc hce
  obtain ⟨an, cn, rfl⟩ := hX.ex.ns.slice
  obtain ⟨aa, ca, rfl⟩ := hX.ex.a.slice
  obtain ⟨ab, cb, rfl⟩ := hX.ex.b.slice
  obtain ⟨ac, cc, rfl⟩ := hX.ex.c.slice
  have HX := Lib.hid hX
  have HS := Lib.hid hS
  have HNm := Lib.hid hnm
  have hcE : costE ns a b c = 1 + ns.length + b.len + (a.cost + b.cost + c.cost) := rfl
  have hlen : a.len + b.len + c.len + ns.length ≤ 1048576 := by have := len_cost a; have := len_cost c; omega
  have HC := Lib.hid (show ∀ w', Two ob fb W w' → ExL M w' bk of k s nn op (.slice an ns.length cn) (.slice aa a.len ca) (.slice ab b.len cb) (.slice ac c.len cc) ns a b c from fun w' t => HX.out.two t hM1 hM2 hMW)
  have hsl : s.length ≤ maxLen := by
    have := HNm.out
    unfold nmE at this
    simp only [Bool.and_eq_true, decide_eq_true_eq] at this
    exact this.1.1.1.1
  have hf0 := cell_of hS.fd.cells 0 _ rfl
  have hf1 := cell_of hS.fd.cells 1 _ rfl
  obtain ⟨_, e0, e1, e2, e3, e4, e5, e6, e7, _⟩ := hX
  cases hk : (k == 1) with
  | true =>
    have hlk := fun q => (HS.out.draws q).op.look s hsl
    by_cases hz : cnt s = 0
    · have hzd : (cnt s == 0) = true := by simpa using hz
      go_enter Tryz.func57, Tryz.ntmps57
      clear hS
      go_wp2_with fail
      go_quiet (fail)
      go_wp2_with fail
      obtain ⟨W5, hrun, hfo5, hg5⟩ := ((HS.out.draws (nq + 1)).fo).put s hsl (by unfold maxLen; omega)
      refine region_one 9 (by kernel_rfl) (by kernel_rfl) ?_
      simp only [List.take_succ_cons, List.take_zero, List.drop_succ_cons, List.drop_zero]
      refine swk_want (by rfl) (fun K hK => ?_)
      replace hK := Lib.hid hK
      go_simp
      refine hK.out _ ?_
      clear hK K
      refine swk_want (by rfl) (fun K hK => ?_)
      replace hK := Lib.hid hK
      go_simp
      refine hK.out _ ?_
      clear hK K
      refine swk_want (by rfl) (fun K hK => ?_)
      replace hK := Lib.hid hK
      go_simp
      refine hK.out _ ?_
      clear hK K
      refine swk_want (by rfl) (fun K hK => ?_)
      replace hK := Lib.hid hK
      go_simp
      refine hK.out _ ?_
      clear hK K
      refine swk_want (by rfl) (fun K hK => ?_)
      replace hK := Lib.hid hK
      go_simp
      refine hK.out _ ?_
      clear hK K
      refine swk_want (by rfl) (fun K hK => ?_)
      replace hK := Lib.hid hK
      go_simp
      refine hK.out _ ?_
      clear hK K
      refine swk_want (by rfl) (fun K hK => ?_)
      replace hK := Lib.hid hK
      go_simp
      refine hK.out _ ?_
      clear hK K
      refine swk_want (by rfl) (fun K hK => ?_)
      replace hK := Lib.hid hK
      go_simp
      refine hK.out _ ?_
      clear hK K
      refine swk_want (by rfl) (fun K hK => ?_)
      replace hK := Lib.hid hK
      go_simp
      refine hK.out _ ?_
      clear hK K
      refine swk_nil ?_
      refine one_want rfl (by rfl) (fun K hK => ?_)
      replace hK := Lib.hid hK
      go_simp
      refine hK.out _ _ ?_
      clear hK K
      simp only [List.take_succ_cons, List.take_zero, List.drop_succ_cons, List.drop_zero]
      refine swk_nil ?_
      obtain ⟨W1, hW1⟩ : ∃ W1, W5 = W1 := ⟨_, rfl⟩
      have HT1 := Lib.hid (show Two ob fb W W1 from hW1 ▸ (Two.draws W (nq + 1)).trans (Two.fb hg5))
      have HS1 := Lib.hid (show FSt W1 fd ob fb (N + 1) cnt (fun x => F x || (decide (cnt x = 0) && ((k == 1) && decide (x = s)))) from hW1 ▸ by
        have e : (fun x => decide (x = s) || F x) = fun x => F x || (decide (cnt x = 0) && ((k == 1) && decide (x = s))) := by
          funext x
          by_cases hx : x = s
          · subst hx; simp [hz, hk]
          · simp [hx]
        rw [e] at hfo5
        exact ⟨(HS.out.draws (nq + 1)).fd.two (Two.fb hg5), ((HS.out.draws (nq + 1)).op.kept hg5 (by simp [HS.out.fd.ne.2.2])).mono (by omega), hfo5⟩)
      rw [hW1]
      clear hW1 hlk hrun hfo5 hg5 e0 e1 e2 e3 e4 e5 e6 e7 hf0 hf1 hzd
      obtain ⟨_, e0, e1, e2, e3, e4, e5, e6, e7, _⟩ := HC.out W1 HT1.out
      go_wp2_with fail
      go_at_call 80
      refine (bind_any fd ob fb (N + 1) M cnt ns _ 1 W1 HS1.out.fd HS1.out.op hM1 (HC.out W1 HT1.out).ex.ns (Nat.le_trans hMW HT1.out.size) (by omega) (by omega) (nm_ns HNm.out) (.inl rfl) (fun x => by have := hc x; omega)).mono ?_
      rintro e w2 ⟨⟨v2, rfl⟩, ho2, hg2⟩
      have HS2 := Lib.hid (HS1.out.turn ho2 hg2 (by omega))
      have HT2 := Lib.hid (HT1.out.trans (Two.ob hg2))
      clear ho2 hg2 e0 e1 e2 e3 e4 e5 e6 e7
      obtain ⟨_, e0, e1, e2, e3, e4, e5, e6, e7, _⟩ := HC.out w2 HT2.out
      go_wp2_with fail
      go_at_call 81
      refine (bindAll_any fd ob fb (N + 1 + ns.length) M _ b _ 1 w2 HS2.out.fd HS2.out.op hM1 (HC.out w2 HT2.out).ex.b (Nat.le_trans hMW HT2.out.size) (by omega) (by omega) (nm_bn HNm.out) (.inl rfl) (fun x => by have := hc x; have := occ_le x ns; omega)).mono ?_
      rintro e w3 ⟨⟨v3, rfl⟩, ho3, hg3⟩
      have HS3 := Lib.hid (HS2.out.turn ho3 hg3 (by omega))
      have HT3 := Lib.hid (HT2.out.trans (Two.ob hg3))
      clear ho3 hg3 e0 e1 e2 e3 e4 e5 e6 e7
      obtain ⟨_, e0, e1, e2, e3, e4, e5, e6, e7, _⟩ := HC.out w3 HT3.out
      obtain ⟨cnt2, hc2⟩ : ∃ cnt2 : List UInt8 → Int, (fun x => cnt x + 1 * (occ x ns : Int) + 1 * (occ x (bnames b) : Int)) = cnt2 := ⟨_, rfl⟩
      obtain ⟨F1, hF1⟩ : ∃ F1 : List UInt8 → Bool, (fun x => F x || (decide (cnt x = 0) && ((k == 1) && decide (x = s)))) = F1 := ⟨_, rfl⟩
      have HS4 := Lib.hid (show FSt w3 fd ob fb (N + 1 + ns.length + b.len) cnt2 F1 from by rw [← hc2, ← hF1]; exact HS3.out)
      have HCn := Lib.hid (show ∀ x, 0 ≤ cnt2 x ∧ cnt2 x ≤ cnt x + ns.length + b.len from fun x => by rw [← hc2]; have := hc x; have := occ_le x ns; have := occ_le x (bnames b); have := bnames_len b; dsimp only; omega)
      have HEq := Lib.hid (And.intro hc2 hF1)
      clear HS1 HS2 HS3 HT1 HT2 hc2 hF1
      go_wp2_with fail
      go_loopw [49] (fun i wr => ∃ f1 f2 : Fx, a = f1.app f2 ∧ i = .int .i64 f1.len ∧ FSt wr fd ob fb (N + 1 + ns.length + b.len + 3 * f1.cost) cnt2 (fun x => F1 x || (decide (cnt2 x = 0) && fvF x false f1)) ∧ Two ob fb W wr) (fun i _ => a.len - (intOf i).toNat)
      case atStart => exact ⟨.nil, a, rfl, rfl, by have := HS4.out; simpa [fvF, Fx.cost] using this, HT3.out⟩
      case round =>
        obtain ⟨f1, f2, hf, rfl, hst, ht⟩ := hrel
        have HF := Lib.hid hf
        have HR := Lib.hid hst
        have HT := Lib.hid ht
        clear hf hst ht e0 e1 e2 e3 e4 e5 e6 e7
        obtain ⟨_, e0, e1, e2, e3, e4, e5, e6, e7, _⟩ := HC.out wr HT.out
        by_cases hlt : f1.len < a.len
        · obtain ⟨p1, k1, s1, n1, op1, ns1, x, y, z, r1, rfl⟩ := fx_cons_of HF.out hlt
          obtain ⟨bb, oo, wn, wa, wb, wc, hv, hbb, hlc, hcm, _, _, c0, c1, c2, c3, c4, c5, c6, c7, hx⟩ := fx_at (HC.out wr HT.out).ex.a HF.out
          cases hv
          have HQ := Lib.hid (show ExL M wr bb (oo + f1.len * 8) k1 s1 n1 op1 wn wa wb wc ns1 x y z from ⟨hbb, c0, c1, c2, c3, c4, c5, c6, c7, hx⟩)
          unfold maxLen at hcm
          clear c0 c1 c2 c3 c4 c5 c6 c7 hx
          have hca := congrArg Fx.count HF.out
          rw [Fx.count_app] at hca
          simp only [Fx.count] at hca
          have hco := congrArg Fx.cost HF.out
          rw [cost_app] at hco
          have hcc : (Fx.cons p1 k1 s1 n1 op1 ns1 x y z r1).cost = p1.cost + costE ns1 x y z + r1.cost := rfl
          have hcu := parts_count x y z
          have hcu2 := parts_count a b c
          have hnm1 : nmE s1 ns1 x y z = true := nm_part (by have h := HNm.out; unfold nmE at h; simp only [Bool.and_eq_true] at h; rw [← HF.out]; exact h.1.1.2)
          have hsz := Nat.le_trans hMW HT.out.size
          have hcall := IH bb (oo + f1.len * 8) k1 s1 n1 op1 _ _ _ _ ns1 x y z wr cnt2 _ _ (by omega) HQ.out hsz HR.out hnm1 (by omega) (fun x => by have := HCn.out x; have := hc x; omega) (by omega)
          have HCa := Lib.hid hcall
          clear hcall hca hnm1
          go_wp2_with fail
          go_at_call 57
          refine HCa.out.mono ?_
          rintro e w5 ⟨⟨v5, rfl⟩, hst5, ht5⟩
          have HR5 := Lib.hid hst5
          have HT5 := Lib.hid (HT.out.trans ht5)
          clear hst5 ht5 HCa
          go_wp2_with fail
          go_roundw
          case rel =>
            refine ⟨f1.app (.cons p1 k1 s1 n1 op1 ns1 x y z .nil), r1, by rw [Fx.app_app]; exact HF.out, by rw [Fx.len_app]; simp only [Fx.len]; go_num, ?_, HT5.out⟩
            have e : (fun x_1 => (F1 x_1 || (decide (cnt2 x_1 = 0) && fvF x_1 false f1)) || (decide (cnt2 x_1 = 0) && fvE x_1 k1 s1 ns1 x y z)) = fun x_1 => F1 x_1 || (decide (cnt2 x_1 = 0) && fvF x_1 false (f1.app (.cons p1 k1 s1 n1 op1 ns1 x y z .nil))) := by
              funext q
              rw [fvF_one, Bool.or_assoc, ← Bool.and_or_distrib_left]
            have h5 := HR5.out
            rw [e] at h5
            have e2 : (f1.app (.cons p1 k1 s1 n1 op1 ns1 x y z .nil)).cost = f1.cost + (p1.cost + costE ns1 x y z + 0) := by rw [cost_app]; rfl
            exact h5.mono (by rw [e2]; omega)
          case measure => simp [intOf]; omega
        · obtain rfl : f2 = .nil := fx_nil_of HF.out hlt
          have hfa := HF.out
          rw [Fx.app_nil] at hfa
          subst hfa
          go_wp2_with fail
          go_loopw [66] (fun i wb => ∃ f1 f2 : Fx, b = f1.app f2 ∧ i = .int .i64 f1.len ∧ FSt wb fd ob fb (N + 1 + ns.length + b.len + 3 * a.cost + 3 * f1.cost) cnt2 (fun x => F1 x || (decide (cnt2 x = 0) && (fvF x false a || fvF x false f1))) ∧ Two ob fb W wb) (fun i _ => b.len - (intOf i).toNat)
          case atStart => exact ⟨.nil, b, rfl, rfl, by have := HR.out; simpa [fvF, Fx.cost] using this, HT.out⟩
          case round =>
            clear HR HT HF e0 e1 e2 e3 e4 e5 e6 e7
            obtain ⟨f1, f2, hf, rfl, hst, ht⟩ := hrel
            have HF := Lib.hid hf
            have HR := Lib.hid hst
            have HT := Lib.hid ht
            clear hf hst ht hlt
            obtain ⟨_, e0, e1, e2, e3, e4, e5, e6, e7, _⟩ := HC.out _ HT.out
            by_cases hlt : f1.len < b.len
            · obtain ⟨p1, k1, s1, n1, op1, ns1, x, y, z, r1, rfl⟩ := fx_cons_of HF.out hlt
              obtain ⟨bb, oo, wn, wa, wb, wc, hv, hbb, hlc, hcm, _, _, c0, c1, c2, c3, c4, c5, c6, c7, hx⟩ := fx_at (HC.out _ HT.out).ex.b HF.out
              cases hv
              have HQ := Lib.hid (show ExL M _ bb (oo + f1.len * 9 + 1) k1 s1 n1 op1 wn wa wb wc ns1 x y z from ⟨hbb, c0, c1, c2, c3, c4, c5, c6, c7, hx⟩)
              unfold maxLen at hcm
              clear c0 c1 c2 c3 c4 c5 c6 c7 hx
              have hca := congrArg Fx.count HF.out
              rw [Fx.count_app] at hca
              simp only [Fx.count] at hca
              have hco := congrArg Fx.cost HF.out
              rw [cost_app] at hco
              have hcc : (Fx.cons p1 k1 s1 n1 op1 ns1 x y z r1).cost = p1.cost + costE ns1 x y z + r1.cost := rfl
              have hcu := parts_count x y z
              have hcu2 := parts_count a b c
              have hnm1 : nmE s1 ns1 x y z = true := nm_part (by have h := HNm.out; unfold nmE at h; simp only [Bool.and_eq_true] at h; rw [← HF.out]; exact h.1.2)
              have hsz := Nat.le_trans hMW HT.out.size
              have hcall := IH bb (oo + f1.len * 9 + 1) k1 s1 n1 op1 _ _ _ _ ns1 x y z _ cnt2 _ _ (by omega) HQ.out hsz HR.out hnm1 (by omega) (fun x => by have := HCn.out x; have := hc x; omega) (by omega)
              have HCa := Lib.hid hcall
              clear hcall hca hnm1
              go_wp2_with fail
              go_at_call 57
              refine HCa.out.mono ?_
              rintro e w5 ⟨⟨v5, rfl⟩, hst5, ht5⟩
              have HR5 := Lib.hid hst5
              have HT5 := Lib.hid (HT.out.trans ht5)
              clear hst5 ht5 HCa
              go_wp2_with fail
              go_roundw
              case rel =>
                refine ⟨f1.app (.cons p1 k1 s1 n1 op1 ns1 x y z .nil), r1, by rw [Fx.app_app]; exact HF.out, by rw [Fx.len_app]; simp only [Fx.len]; go_num, ?_, HT5.out⟩
                have e : (fun x_1 => (F1 x_1 || (decide (cnt2 x_1 = 0) && (fvF x_1 false a || fvF x_1 false f1))) || (decide (cnt2 x_1 = 0) && fvE x_1 k1 s1 ns1 x y z)) = fun x_1 => F1 x_1 || (decide (cnt2 x_1 = 0) && (fvF x_1 false a || fvF x_1 false (f1.app (.cons p1 k1 s1 n1 op1 ns1 x y z .nil)))) := by
                  funext q
                  rw [fvF_one, Bool.or_assoc, ← Bool.and_or_distrib_left, Bool.or_assoc]
                have h5 := HR5.out
                rw [e] at h5
                have e2 : (f1.app (.cons p1 k1 s1 n1 op1 ns1 x y z .nil)).cost = f1.cost + (p1.cost + costE ns1 x y z + 0) := by rw [cost_app]; rfl
                exact h5.mono (by rw [e2]; omega)
              case measure => simp [intOf]; omega
            · obtain rfl : f2 = .nil := fx_nil_of HF.out hlt
              have hfa := HF.out
              rw [Fx.app_nil] at hfa
              subst hfa
              go_wp2_with fail
              go_at_call 81
              refine (bindAll_any fd ob fb (N + 1 + ns.length + b.len + 3 * a.cost + 3 * b.cost) M _ b _ (-1) _ HR.out.fd HR.out.op hM1 (HC.out _ HT.out).ex.b (Nat.le_trans hMW HT.out.size) (by omega) (by omega) (nm_bn HNm.out) (.inr rfl) (fun x => by have := HCn.out x; have := hc x; omega)).mono ?_
              rintro e w6 ⟨⟨v6, rfl⟩, ho6, hg6⟩
              have HS6 := Lib.hid (HR.out.turn ho6 hg6 (by omega))
              have HT6 := Lib.hid (HT.out.trans (Two.ob hg6))
              clear ho6 hg6 e0 e1 e2 e3 e4 e5 e6 e7
              obtain ⟨_, e0, e1, e2, e3, e4, e5, e6, e7, _⟩ := HC.out w6 HT6.out
              go_wp2_with fail
              go_at_call 80
              refine (bind_any fd ob fb (N + 1 + ns.length + b.len + 3 * a.cost + 3 * b.cost + b.len) M _ ns _ (-1) w6 HS6.out.fd HS6.out.op hM1 (HC.out w6 HT6.out).ex.ns (Nat.le_trans hMW HT6.out.size) (by omega) (by omega) (nm_ns HNm.out) (.inr rfl) (fun x => by have := HCn.out x; have := hc x; have := occ_le x (bnames b); have := bnames_len b; omega)).mono ?_
              rintro e w7 ⟨⟨v7, rfl⟩, ho7, hg7⟩
              have hback : (fun x => cnt2 x + -1 * (occ x (bnames b) : Int) + -1 * (occ x ns : Int)) = cnt := by
                rw [← HEq.out.1]
                funext x
                dsimp only
                omega
              have h7 := HS6.out.turn ho7 hg7 (Nat.le_add_right _ _)
              rw [hback] at h7
              have HS7 := Lib.hid h7
              have HT7 := Lib.hid (HT6.out.trans (Two.ob hg7))
              clear ho7 hg7 h7 hback e0 e1 e2 e3 e4 e5 e6 e7
              obtain ⟨_, e0, e1, e2, e3, e4, e5, e6, e7, _⟩ := HC.out w7 HT7.out
              have HZ := Lib.hid (open_eq HEq.out.1 (fun x => (hc x).1))
              cases hk6 : (k == 6) with
              | false =>
                go_wp2_with fail
                go_end0
                refine ⟨⟨_, rfl⟩, ?_, HT7.out⟩
                have e : (fun x => F1 x || (decide (cnt2 x = 0) && (fvF x false a || fvF x false b))) = fun x => F x || (decide (cnt x = 0) && fvE x k s ns a b c) := by
                  funext x
                  rw [HZ.out x, ← HEq.out.2]
                  unfold fvE
                  have h := bool_id (F x) (decide (cnt x = 0)) ((k == 1) && decide (x = s)) (decide (x ∈ ns)) (decide (x ∈ bnames b)) (fvF x false a || fvF x false b) ((k == 6) && !decide (x = s) && fvF x true c)
                  rw [← h, hk6]
                  simp
                have h8 := HS7.out
                rw [e] at h8
                exact h8.mono (by omega)
              | true =>
                have hk7 : k = 6 := by simpa using hk6
                have hcall := HA bk of s nn op _ _ _ _ ns a b c w7 cnt _ _ (by have := parts_count a b c; omega) (hk7 ▸ HC.out w7 HT7.out) (Nat.le_trans hMW HT7.out.size) HS7.out HNm.out (by omega) hc hce
                have HCa := Lib.hid hcall
                clear hcall
                go_wp2_with fail
                go_at_call 82
                refine HCa.out.mono ?_
                rintro e w8 ⟨⟨v8, rfl⟩, hs8, ht8⟩
                have HS8 := Lib.hid hs8
                have HT8 := Lib.hid (HT7.out.trans ht8)
                clear hs8 ht8 HCa
                go_wp2_with fail
                go_end0
                refine ⟨⟨_, rfl⟩, ?_, HT8.out⟩
                have e : (fun x => (F1 x || (decide (cnt2 x = 0) && (fvF x false a || fvF x false b))) || (decide (cnt x = 0) && (!decide (x = s) && fvF x true c))) = fun x => F x || (decide (cnt x = 0) && fvE x k s ns a b c) := by
                  funext x
                  rw [HZ.out x, ← HEq.out.2]
                  unfold fvE
                  have h := bool_id (F x) (decide (cnt x = 0)) ((k == 1) && decide (x = s)) (decide (x ∈ ns)) (decide (x ∈ bnames b)) (fvF x false a || fvF x false b) ((k == 6) && !decide (x = s) && fvF x true c)
                  rw [← h, hk6]
                  simp
                have h9 := HS8.out
                rw [e] at h9
                exact h9.mono (by omega)
    · have hzd : (cnt s == 0) = false := by simpa using hz
      go_enter Tryz.func57, Tryz.ntmps57
      clear hS
      go_wp2_with fail
      go_quiet (fail)
      obtain ⟨W1, hW1⟩ : ∃ W1, W.drewN nq = W1 := ⟨_, rfl⟩
      have HT1 := Lib.hid (show Two ob fb W W1 from hW1 ▸ Two.draws W nq)
      have HS1 := Lib.hid (show FSt W1 fd ob fb (N + 1) cnt (fun x => F x || (decide (cnt x = 0) && ((k == 1) && decide (x = s)))) from hW1 ▸ by
        have e : F = fun x => F x || (decide (cnt x = 0) && ((k == 1) && decide (x = s))) := by
          funext x
          by_cases hx : x = s
          · subst hx; simp [hz]
          · simp [hx]
        have h := (HS.out.draws nq).mono (Nat.le_succ N)
        rw [e] at h
        exact h)
      rw [hW1]
      clear hW1 hlk e0 e1 e2 e3 e4 e5 e6 e7 hf0 hf1 hzd
      obtain ⟨_, e0, e1, e2, e3, e4, e5, e6, e7, _⟩ := HC.out W1 HT1.out
      go_wp2_with fail
      go_at_call 80
      refine (bind_any fd ob fb (N + 1) M cnt ns _ 1 W1 HS1.out.fd HS1.out.op hM1 (HC.out W1 HT1.out).ex.ns (Nat.le_trans hMW HT1.out.size) (by omega) (by omega) (nm_ns HNm.out) (.inl rfl) (fun x => by have := hc x; omega)).mono ?_
      rintro e w2 ⟨⟨v2, rfl⟩, ho2, hg2⟩
      have HS2 := Lib.hid (HS1.out.turn ho2 hg2 (by omega))
      have HT2 := Lib.hid (HT1.out.trans (Two.ob hg2))
      clear ho2 hg2 e0 e1 e2 e3 e4 e5 e6 e7
      obtain ⟨_, e0, e1, e2, e3, e4, e5, e6, e7, _⟩ := HC.out w2 HT2.out
      go_wp2_with fail
      go_at_call 81
      refine (bindAll_any fd ob fb (N + 1 + ns.length) M _ b _ 1 w2 HS2.out.fd HS2.out.op hM1 (HC.out w2 HT2.out).ex.b (Nat.le_trans hMW HT2.out.size) (by omega) (by omega) (nm_bn HNm.out) (.inl rfl) (fun x => by have := hc x; have := occ_le x ns; omega)).mono ?_
      rintro e w3 ⟨⟨v3, rfl⟩, ho3, hg3⟩
      have HS3 := Lib.hid (HS2.out.turn ho3 hg3 (by omega))
      have HT3 := Lib.hid (HT2.out.trans (Two.ob hg3))
      clear ho3 hg3 e0 e1 e2 e3 e4 e5 e6 e7
      obtain ⟨_, e0, e1, e2, e3, e4, e5, e6, e7, _⟩ := HC.out w3 HT3.out
      obtain ⟨cnt2, hc2⟩ : ∃ cnt2 : List UInt8 → Int, (fun x => cnt x + 1 * (occ x ns : Int) + 1 * (occ x (bnames b) : Int)) = cnt2 := ⟨_, rfl⟩
      obtain ⟨F1, hF1⟩ : ∃ F1 : List UInt8 → Bool, (fun x => F x || (decide (cnt x = 0) && ((k == 1) && decide (x = s)))) = F1 := ⟨_, rfl⟩
      have HS4 := Lib.hid (show FSt w3 fd ob fb (N + 1 + ns.length + b.len) cnt2 F1 from by rw [← hc2, ← hF1]; exact HS3.out)
      have HCn := Lib.hid (show ∀ x, 0 ≤ cnt2 x ∧ cnt2 x ≤ cnt x + ns.length + b.len from fun x => by rw [← hc2]; have := hc x; have := occ_le x ns; have := occ_le x (bnames b); have := bnames_len b; dsimp only; omega)
      have HEq := Lib.hid (And.intro hc2 hF1)
      clear HS1 HS2 HS3 HT1 HT2 hc2 hF1
      go_wp2_with fail
      go_loopw [49] (fun i wr => ∃ f1 f2 : Fx, a = f1.app f2 ∧ i = .int .i64 f1.len ∧ FSt wr fd ob fb (N + 1 + ns.length + b.len + 3 * f1.cost) cnt2 (fun x => F1 x || (decide (cnt2 x = 0) && fvF x false f1)) ∧ Two ob fb W wr) (fun i _ => a.len - (intOf i).toNat)
      case atStart => exact ⟨.nil, a, rfl, rfl, by have := HS4.out; simpa [fvF, Fx.cost] using this, HT3.out⟩
      case round =>
        obtain ⟨f1, f2, hf, rfl, hst, ht⟩ := hrel
        have HF := Lib.hid hf
        have HR := Lib.hid hst
        have HT := Lib.hid ht
        clear hf hst ht e0 e1 e2 e3 e4 e5 e6 e7
        obtain ⟨_, e0, e1, e2, e3, e4, e5, e6, e7, _⟩ := HC.out wr HT.out
        by_cases hlt : f1.len < a.len
        · obtain ⟨p1, k1, s1, n1, op1, ns1, x, y, z, r1, rfl⟩ := fx_cons_of HF.out hlt
          obtain ⟨bb, oo, wn, wa, wb, wc, hv, hbb, hlc, hcm, _, _, c0, c1, c2, c3, c4, c5, c6, c7, hx⟩ := fx_at (HC.out wr HT.out).ex.a HF.out
          cases hv
          have HQ := Lib.hid (show ExL M wr bb (oo + f1.len * 8) k1 s1 n1 op1 wn wa wb wc ns1 x y z from ⟨hbb, c0, c1, c2, c3, c4, c5, c6, c7, hx⟩)
          unfold maxLen at hcm
          clear c0 c1 c2 c3 c4 c5 c6 c7 hx
          have hca := congrArg Fx.count HF.out
          rw [Fx.count_app] at hca
          simp only [Fx.count] at hca
          have hco := congrArg Fx.cost HF.out
          rw [cost_app] at hco
          have hcc : (Fx.cons p1 k1 s1 n1 op1 ns1 x y z r1).cost = p1.cost + costE ns1 x y z + r1.cost := rfl
          have hcu := parts_count x y z
          have hcu2 := parts_count a b c
          have hnm1 : nmE s1 ns1 x y z = true := nm_part (by have h := HNm.out; unfold nmE at h; simp only [Bool.and_eq_true] at h; rw [← HF.out]; exact h.1.1.2)
          have hsz := Nat.le_trans hMW HT.out.size
          have hcall := IH bb (oo + f1.len * 8) k1 s1 n1 op1 _ _ _ _ ns1 x y z wr cnt2 _ _ (by omega) HQ.out hsz HR.out hnm1 (by omega) (fun x => by have := HCn.out x; have := hc x; omega) (by omega)
          have HCa := Lib.hid hcall
          clear hcall hca hnm1
          go_wp2_with fail
          go_at_call 57
          refine HCa.out.mono ?_
          rintro e w5 ⟨⟨v5, rfl⟩, hst5, ht5⟩
          have HR5 := Lib.hid hst5
          have HT5 := Lib.hid (HT.out.trans ht5)
          clear hst5 ht5 HCa
          go_wp2_with fail
          go_roundw
          case rel =>
            refine ⟨f1.app (.cons p1 k1 s1 n1 op1 ns1 x y z .nil), r1, by rw [Fx.app_app]; exact HF.out, by rw [Fx.len_app]; simp only [Fx.len]; go_num, ?_, HT5.out⟩
            have e : (fun x_1 => (F1 x_1 || (decide (cnt2 x_1 = 0) && fvF x_1 false f1)) || (decide (cnt2 x_1 = 0) && fvE x_1 k1 s1 ns1 x y z)) = fun x_1 => F1 x_1 || (decide (cnt2 x_1 = 0) && fvF x_1 false (f1.app (.cons p1 k1 s1 n1 op1 ns1 x y z .nil))) := by
              funext q
              rw [fvF_one, Bool.or_assoc, ← Bool.and_or_distrib_left]
            have h5 := HR5.out
            rw [e] at h5
            have e2 : (f1.app (.cons p1 k1 s1 n1 op1 ns1 x y z .nil)).cost = f1.cost + (p1.cost + costE ns1 x y z + 0) := by rw [cost_app]; rfl
            exact h5.mono (by rw [e2]; omega)
          case measure => simp [intOf]; omega
        · obtain rfl : f2 = .nil := fx_nil_of HF.out hlt
          have hfa := HF.out
          rw [Fx.app_nil] at hfa
          subst hfa
          go_wp2_with fail
          go_loopw [66] (fun i wb => ∃ f1 f2 : Fx, b = f1.app f2 ∧ i = .int .i64 f1.len ∧ FSt wb fd ob fb (N + 1 + ns.length + b.len + 3 * a.cost + 3 * f1.cost) cnt2 (fun x => F1 x || (decide (cnt2 x = 0) && (fvF x false a || fvF x false f1))) ∧ Two ob fb W wb) (fun i _ => b.len - (intOf i).toNat)
          case atStart => exact ⟨.nil, b, rfl, rfl, by have := HR.out; simpa [fvF, Fx.cost] using this, HT.out⟩
          case round =>
            clear HR HT HF e0 e1 e2 e3 e4 e5 e6 e7
            obtain ⟨f1, f2, hf, rfl, hst, ht⟩ := hrel
            have HF := Lib.hid hf
            have HR := Lib.hid hst
            have HT := Lib.hid ht
            clear hf hst ht hlt
            obtain ⟨_, e0, e1, e2, e3, e4, e5, e6, e7, _⟩ := HC.out _ HT.out
            by_cases hlt : f1.len < b.len
            · obtain ⟨p1, k1, s1, n1, op1, ns1, x, y, z, r1, rfl⟩ := fx_cons_of HF.out hlt
              obtain ⟨bb, oo, wn, wa, wb, wc, hv, hbb, hlc, hcm, _, _, c0, c1, c2, c3, c4, c5, c6, c7, hx⟩ := fx_at (HC.out _ HT.out).ex.b HF.out
              cases hv
              have HQ := Lib.hid (show ExL M _ bb (oo + f1.len * 9 + 1) k1 s1 n1 op1 wn wa wb wc ns1 x y z from ⟨hbb, c0, c1, c2, c3, c4, c5, c6, c7, hx⟩)
              unfold maxLen at hcm
              clear c0 c1 c2 c3 c4 c5 c6 c7 hx
              have hca := congrArg Fx.count HF.out
              rw [Fx.count_app] at hca
              simp only [Fx.count] at hca
              have hco := congrArg Fx.cost HF.out
              rw [cost_app] at hco
              have hcc : (Fx.cons p1 k1 s1 n1 op1 ns1 x y z r1).cost = p1.cost + costE ns1 x y z + r1.cost := rfl
              have hcu := parts_count x y z
              have hcu2 := parts_count a b c
              have hnm1 : nmE s1 ns1 x y z = true := nm_part (by have h := HNm.out; unfold nmE at h; simp only [Bool.and_eq_true] at h; rw [← HF.out]; exact h.1.2)
              have hsz := Nat.le_trans hMW HT.out.size
              have hcall := IH bb (oo + f1.len * 9 + 1) k1 s1 n1 op1 _ _ _ _ ns1 x y z _ cnt2 _ _ (by omega) HQ.out hsz HR.out hnm1 (by omega) (fun x => by have := HCn.out x; have := hc x; omega) (by omega)
              have HCa := Lib.hid hcall
              clear hcall hca hnm1
              go_wp2_with fail
              go_at_call 57
              refine HCa.out.mono ?_
              rintro e w5 ⟨⟨v5, rfl⟩, hst5, ht5⟩
              have HR5 := Lib.hid hst5
              have HT5 := Lib.hid (HT.out.trans ht5)
              clear hst5 ht5 HCa
              go_wp2_with fail
              go_roundw
              case rel =>
                refine ⟨f1.app (.cons p1 k1 s1 n1 op1 ns1 x y z .nil), r1, by rw [Fx.app_app]; exact HF.out, by rw [Fx.len_app]; simp only [Fx.len]; go_num, ?_, HT5.out⟩
                have e : (fun x_1 => (F1 x_1 || (decide (cnt2 x_1 = 0) && (fvF x_1 false a || fvF x_1 false f1))) || (decide (cnt2 x_1 = 0) && fvE x_1 k1 s1 ns1 x y z)) = fun x_1 => F1 x_1 || (decide (cnt2 x_1 = 0) && (fvF x_1 false a || fvF x_1 false (f1.app (.cons p1 k1 s1 n1 op1 ns1 x y z .nil)))) := by
                  funext q
                  rw [fvF_one, Bool.or_assoc, ← Bool.and_or_distrib_left, Bool.or_assoc]
                have h5 := HR5.out
                rw [e] at h5
                have e2 : (f1.app (.cons p1 k1 s1 n1 op1 ns1 x y z .nil)).cost = f1.cost + (p1.cost + costE ns1 x y z + 0) := by rw [cost_app]; rfl
                exact h5.mono (by rw [e2]; omega)
              case measure => simp [intOf]; omega
            · obtain rfl : f2 = .nil := fx_nil_of HF.out hlt
              have hfa := HF.out
              rw [Fx.app_nil] at hfa
              subst hfa
              go_wp2_with fail
              go_at_call 81
              refine (bindAll_any fd ob fb (N + 1 + ns.length + b.len + 3 * a.cost + 3 * b.cost) M _ b _ (-1) _ HR.out.fd HR.out.op hM1 (HC.out _ HT.out).ex.b (Nat.le_trans hMW HT.out.size) (by omega) (by omega) (nm_bn HNm.out) (.inr rfl) (fun x => by have := HCn.out x; have := hc x; omega)).mono ?_
              rintro e w6 ⟨⟨v6, rfl⟩, ho6, hg6⟩
              have HS6 := Lib.hid (HR.out.turn ho6 hg6 (by omega))
              have HT6 := Lib.hid (HT.out.trans (Two.ob hg6))
              clear ho6 hg6 e0 e1 e2 e3 e4 e5 e6 e7
              obtain ⟨_, e0, e1, e2, e3, e4, e5, e6, e7, _⟩ := HC.out w6 HT6.out
              go_wp2_with fail
              go_at_call 80
              refine (bind_any fd ob fb (N + 1 + ns.length + b.len + 3 * a.cost + 3 * b.cost + b.len) M _ ns _ (-1) w6 HS6.out.fd HS6.out.op hM1 (HC.out w6 HT6.out).ex.ns (Nat.le_trans hMW HT6.out.size) (by omega) (by omega) (nm_ns HNm.out) (.inr rfl) (fun x => by have := HCn.out x; have := hc x; have := occ_le x (bnames b); have := bnames_len b; omega)).mono ?_
              rintro e w7 ⟨⟨v7, rfl⟩, ho7, hg7⟩
              have hback : (fun x => cnt2 x + -1 * (occ x (bnames b) : Int) + -1 * (occ x ns : Int)) = cnt := by
                rw [← HEq.out.1]
                funext x
                dsimp only
                omega
              have h7 := HS6.out.turn ho7 hg7 (Nat.le_add_right _ _)
              rw [hback] at h7
              have HS7 := Lib.hid h7
              have HT7 := Lib.hid (HT6.out.trans (Two.ob hg7))
              clear ho7 hg7 h7 hback e0 e1 e2 e3 e4 e5 e6 e7
              obtain ⟨_, e0, e1, e2, e3, e4, e5, e6, e7, _⟩ := HC.out w7 HT7.out
              have HZ := Lib.hid (open_eq HEq.out.1 (fun x => (hc x).1))
              cases hk6 : (k == 6) with
              | false =>
                go_wp2_with fail
                go_end0
                refine ⟨⟨_, rfl⟩, ?_, HT7.out⟩
                have e : (fun x => F1 x || (decide (cnt2 x = 0) && (fvF x false a || fvF x false b))) = fun x => F x || (decide (cnt x = 0) && fvE x k s ns a b c) := by
                  funext x
                  rw [HZ.out x, ← HEq.out.2]
                  unfold fvE
                  have h := bool_id (F x) (decide (cnt x = 0)) ((k == 1) && decide (x = s)) (decide (x ∈ ns)) (decide (x ∈ bnames b)) (fvF x false a || fvF x false b) ((k == 6) && !decide (x = s) && fvF x true c)
                  rw [← h, hk6]
                  simp
                have h8 := HS7.out
                rw [e] at h8
                exact h8.mono (by omega)
              | true =>
                have hk7 : k = 6 := by simpa using hk6
                have hcall := HA bk of s nn op _ _ _ _ ns a b c w7 cnt _ _ (by have := parts_count a b c; omega) (hk7 ▸ HC.out w7 HT7.out) (Nat.le_trans hMW HT7.out.size) HS7.out HNm.out (by omega) hc hce
                have HCa := Lib.hid hcall
                clear hcall
                go_wp2_with fail
                go_at_call 82
                refine HCa.out.mono ?_
                rintro e w8 ⟨⟨v8, rfl⟩, hs8, ht8⟩
                have HS8 := Lib.hid hs8
                have HT8 := Lib.hid (HT7.out.trans ht8)
                clear hs8 ht8 HCa
                go_wp2_with fail
                go_end0
                refine ⟨⟨_, rfl⟩, ?_, HT8.out⟩
                have e : (fun x => (F1 x || (decide (cnt2 x = 0) && (fvF x false a || fvF x false b))) || (decide (cnt x = 0) && (!decide (x = s) && fvF x true c))) = fun x => F x || (decide (cnt x = 0) && fvE x k s ns a b c) := by
                  funext x
                  rw [HZ.out x, ← HEq.out.2]
                  unfold fvE
                  have h := bool_id (F x) (decide (cnt x = 0)) ((k == 1) && decide (x = s)) (decide (x ∈ ns)) (decide (x ∈ bnames b)) (fvF x false a || fvF x false b) ((k == 6) && !decide (x = s) && fvF x true c)
                  rw [← h, hk6]
                  simp
                have h9 := HS8.out
                rw [e] at h9
                exact h9.mono (by omega)
  | false =>
    go_enter Tryz.func57, Tryz.ntmps57
    clear hS
    go_wp2_with fail
    go_quiet (fail)
    obtain ⟨W1, hW1⟩ : ∃ W1, W.drewN nq = W1 := ⟨_, rfl⟩
    have HT1 := Lib.hid (show Two ob fb W W1 from hW1 ▸ Two.draws W nq)
    have HS1 := Lib.hid (show FSt W1 fd ob fb (N + 1) cnt (fun x => F x || (decide (cnt x = 0) && ((k == 1) && decide (x = s)))) from hW1 ▸ by
      have e : F = fun x => F x || (decide (cnt x = 0) && ((k == 1) && decide (x = s))) := by
        funext x
        simp [hk]
      have h := (HS.out.draws nq).mono (Nat.le_succ N)
      rw [e] at h
      exact h)
    rw [hW1]
    clear hW1 e0 e1 e2 e3 e4 e5 e6 e7 hf0 hf1
    obtain ⟨_, e0, e1, e2, e3, e4, e5, e6, e7, _⟩ := HC.out W1 HT1.out
    go_wp2_with fail
    go_at_call 80
    refine (bind_any fd ob fb (N + 1) M cnt ns _ 1 W1 HS1.out.fd HS1.out.op hM1 (HC.out W1 HT1.out).ex.ns (Nat.le_trans hMW HT1.out.size) (by omega) (by omega) (nm_ns HNm.out) (.inl rfl) (fun x => by have := hc x; omega)).mono ?_
    rintro e w2 ⟨⟨v2, rfl⟩, ho2, hg2⟩
    have HS2 := Lib.hid (HS1.out.turn ho2 hg2 (by omega))
    have HT2 := Lib.hid (HT1.out.trans (Two.ob hg2))
    clear ho2 hg2 e0 e1 e2 e3 e4 e5 e6 e7
    obtain ⟨_, e0, e1, e2, e3, e4, e5, e6, e7, _⟩ := HC.out w2 HT2.out
    go_wp2_with fail
    go_at_call 81
    refine (bindAll_any fd ob fb (N + 1 + ns.length) M _ b _ 1 w2 HS2.out.fd HS2.out.op hM1 (HC.out w2 HT2.out).ex.b (Nat.le_trans hMW HT2.out.size) (by omega) (by omega) (nm_bn HNm.out) (.inl rfl) (fun x => by have := hc x; have := occ_le x ns; omega)).mono ?_
    rintro e w3 ⟨⟨v3, rfl⟩, ho3, hg3⟩
    have HS3 := Lib.hid (HS2.out.turn ho3 hg3 (by omega))
    have HT3 := Lib.hid (HT2.out.trans (Two.ob hg3))
    clear ho3 hg3 e0 e1 e2 e3 e4 e5 e6 e7
    obtain ⟨_, e0, e1, e2, e3, e4, e5, e6, e7, _⟩ := HC.out w3 HT3.out
    obtain ⟨cnt2, hc2⟩ : ∃ cnt2 : List UInt8 → Int, (fun x => cnt x + 1 * (occ x ns : Int) + 1 * (occ x (bnames b) : Int)) = cnt2 := ⟨_, rfl⟩
    obtain ⟨F1, hF1⟩ : ∃ F1 : List UInt8 → Bool, (fun x => F x || (decide (cnt x = 0) && ((k == 1) && decide (x = s)))) = F1 := ⟨_, rfl⟩
    have HS4 := Lib.hid (show FSt w3 fd ob fb (N + 1 + ns.length + b.len) cnt2 F1 from by rw [← hc2, ← hF1]; exact HS3.out)
    have HCn := Lib.hid (show ∀ x, 0 ≤ cnt2 x ∧ cnt2 x ≤ cnt x + ns.length + b.len from fun x => by rw [← hc2]; have := hc x; have := occ_le x ns; have := occ_le x (bnames b); have := bnames_len b; dsimp only; omega)
    have HEq := Lib.hid (And.intro hc2 hF1)
    clear HS1 HS2 HS3 HT1 HT2 hc2 hF1
    go_wp2_with fail
    go_loopw [49] (fun i wr => ∃ f1 f2 : Fx, a = f1.app f2 ∧ i = .int .i64 f1.len ∧ FSt wr fd ob fb (N + 1 + ns.length + b.len + 3 * f1.cost) cnt2 (fun x => F1 x || (decide (cnt2 x = 0) && fvF x false f1)) ∧ Two ob fb W wr) (fun i _ => a.len - (intOf i).toNat)
    case atStart => exact ⟨.nil, a, rfl, rfl, by have := HS4.out; simpa [fvF, Fx.cost] using this, HT3.out⟩
    case round =>
      obtain ⟨f1, f2, hf, rfl, hst, ht⟩ := hrel
      have HF := Lib.hid hf
      have HR := Lib.hid hst
      have HT := Lib.hid ht
      clear hf hst ht e0 e1 e2 e3 e4 e5 e6 e7
      obtain ⟨_, e0, e1, e2, e3, e4, e5, e6, e7, _⟩ := HC.out wr HT.out
      by_cases hlt : f1.len < a.len
      · obtain ⟨p1, k1, s1, n1, op1, ns1, x, y, z, r1, rfl⟩ := fx_cons_of HF.out hlt
        obtain ⟨bb, oo, wn, wa, wb, wc, hv, hbb, hlc, hcm, _, _, c0, c1, c2, c3, c4, c5, c6, c7, hx⟩ := fx_at (HC.out wr HT.out).ex.a HF.out
        cases hv
        have HQ := Lib.hid (show ExL M wr bb (oo + f1.len * 8) k1 s1 n1 op1 wn wa wb wc ns1 x y z from ⟨hbb, c0, c1, c2, c3, c4, c5, c6, c7, hx⟩)
        unfold maxLen at hcm
        clear c0 c1 c2 c3 c4 c5 c6 c7 hx
        have hca := congrArg Fx.count HF.out
        rw [Fx.count_app] at hca
        simp only [Fx.count] at hca
        have hco := congrArg Fx.cost HF.out
        rw [cost_app] at hco
        have hcc : (Fx.cons p1 k1 s1 n1 op1 ns1 x y z r1).cost = p1.cost + costE ns1 x y z + r1.cost := rfl
        have hcu := parts_count x y z
        have hcu2 := parts_count a b c
        have hnm1 : nmE s1 ns1 x y z = true := nm_part (by have h := HNm.out; unfold nmE at h; simp only [Bool.and_eq_true] at h; rw [← HF.out]; exact h.1.1.2)
        have hsz := Nat.le_trans hMW HT.out.size
        have hcall := IH bb (oo + f1.len * 8) k1 s1 n1 op1 _ _ _ _ ns1 x y z wr cnt2 _ _ (by omega) HQ.out hsz HR.out hnm1 (by omega) (fun x => by have := HCn.out x; have := hc x; omega) (by omega)
        have HCa := Lib.hid hcall
        clear hcall hca hnm1
        go_wp2_with fail
        go_at_call 57
        refine HCa.out.mono ?_
        rintro e w5 ⟨⟨v5, rfl⟩, hst5, ht5⟩
        have HR5 := Lib.hid hst5
        have HT5 := Lib.hid (HT.out.trans ht5)
        clear hst5 ht5 HCa
        go_wp2_with fail
        go_roundw
        case rel =>
          refine ⟨f1.app (.cons p1 k1 s1 n1 op1 ns1 x y z .nil), r1, by rw [Fx.app_app]; exact HF.out, by rw [Fx.len_app]; simp only [Fx.len]; go_num, ?_, HT5.out⟩
          have e : (fun x_1 => (F1 x_1 || (decide (cnt2 x_1 = 0) && fvF x_1 false f1)) || (decide (cnt2 x_1 = 0) && fvE x_1 k1 s1 ns1 x y z)) = fun x_1 => F1 x_1 || (decide (cnt2 x_1 = 0) && fvF x_1 false (f1.app (.cons p1 k1 s1 n1 op1 ns1 x y z .nil))) := by
            funext q
            rw [fvF_one, Bool.or_assoc, ← Bool.and_or_distrib_left]
          have h5 := HR5.out
          rw [e] at h5
          have e2 : (f1.app (.cons p1 k1 s1 n1 op1 ns1 x y z .nil)).cost = f1.cost + (p1.cost + costE ns1 x y z + 0) := by rw [cost_app]; rfl
          exact h5.mono (by rw [e2]; omega)
        case measure => simp [intOf]; omega
      · obtain rfl : f2 = .nil := fx_nil_of HF.out hlt
        have hfa := HF.out
        rw [Fx.app_nil] at hfa
        subst hfa
        go_wp2_with fail
        go_loopw [66] (fun i wb => ∃ f1 f2 : Fx, b = f1.app f2 ∧ i = .int .i64 f1.len ∧ FSt wb fd ob fb (N + 1 + ns.length + b.len + 3 * a.cost + 3 * f1.cost) cnt2 (fun x => F1 x || (decide (cnt2 x = 0) && (fvF x false a || fvF x false f1))) ∧ Two ob fb W wb) (fun i _ => b.len - (intOf i).toNat)
        case atStart => exact ⟨.nil, b, rfl, rfl, by have := HR.out; simpa [fvF, Fx.cost] using this, HT.out⟩
        case round =>
          clear HR HT HF e0 e1 e2 e3 e4 e5 e6 e7
          obtain ⟨f1, f2, hf, rfl, hst, ht⟩ := hrel
          have HF := Lib.hid hf
          have HR := Lib.hid hst
          have HT := Lib.hid ht
          clear hf hst ht hlt
          obtain ⟨_, e0, e1, e2, e3, e4, e5, e6, e7, _⟩ := HC.out _ HT.out
          by_cases hlt : f1.len < b.len
          · obtain ⟨p1, k1, s1, n1, op1, ns1, x, y, z, r1, rfl⟩ := fx_cons_of HF.out hlt
            obtain ⟨bb, oo, wn, wa, wb, wc, hv, hbb, hlc, hcm, _, _, c0, c1, c2, c3, c4, c5, c6, c7, hx⟩ := fx_at (HC.out _ HT.out).ex.b HF.out
            cases hv
            have HQ := Lib.hid (show ExL M _ bb (oo + f1.len * 9 + 1) k1 s1 n1 op1 wn wa wb wc ns1 x y z from ⟨hbb, c0, c1, c2, c3, c4, c5, c6, c7, hx⟩)
            unfold maxLen at hcm
            clear c0 c1 c2 c3 c4 c5 c6 c7 hx
            have hca := congrArg Fx.count HF.out
            rw [Fx.count_app] at hca
            simp only [Fx.count] at hca
            have hco := congrArg Fx.cost HF.out
            rw [cost_app] at hco
            have hcc : (Fx.cons p1 k1 s1 n1 op1 ns1 x y z r1).cost = p1.cost + costE ns1 x y z + r1.cost := rfl
            have hcu := parts_count x y z
            have hcu2 := parts_count a b c
            have hnm1 : nmE s1 ns1 x y z = true := nm_part (by have h := HNm.out; unfold nmE at h; simp only [Bool.and_eq_true] at h; rw [← HF.out]; exact h.1.2)
            have hsz := Nat.le_trans hMW HT.out.size
            have hcall := IH bb (oo + f1.len * 9 + 1) k1 s1 n1 op1 _ _ _ _ ns1 x y z _ cnt2 _ _ (by omega) HQ.out hsz HR.out hnm1 (by omega) (fun x => by have := HCn.out x; have := hc x; omega) (by omega)
            have HCa := Lib.hid hcall
            clear hcall hca hnm1
            go_wp2_with fail
            go_at_call 57
            refine HCa.out.mono ?_
            rintro e w5 ⟨⟨v5, rfl⟩, hst5, ht5⟩
            have HR5 := Lib.hid hst5
            have HT5 := Lib.hid (HT.out.trans ht5)
            clear hst5 ht5 HCa
            go_wp2_with fail
            go_roundw
            case rel =>
              refine ⟨f1.app (.cons p1 k1 s1 n1 op1 ns1 x y z .nil), r1, by rw [Fx.app_app]; exact HF.out, by rw [Fx.len_app]; simp only [Fx.len]; go_num, ?_, HT5.out⟩
              have e : (fun x_1 => (F1 x_1 || (decide (cnt2 x_1 = 0) && (fvF x_1 false a || fvF x_1 false f1))) || (decide (cnt2 x_1 = 0) && fvE x_1 k1 s1 ns1 x y z)) = fun x_1 => F1 x_1 || (decide (cnt2 x_1 = 0) && (fvF x_1 false a || fvF x_1 false (f1.app (.cons p1 k1 s1 n1 op1 ns1 x y z .nil)))) := by
                funext q
                rw [fvF_one, Bool.or_assoc, ← Bool.and_or_distrib_left, Bool.or_assoc]
              have h5 := HR5.out
              rw [e] at h5
              have e2 : (f1.app (.cons p1 k1 s1 n1 op1 ns1 x y z .nil)).cost = f1.cost + (p1.cost + costE ns1 x y z + 0) := by rw [cost_app]; rfl
              exact h5.mono (by rw [e2]; omega)
            case measure => simp [intOf]; omega
          · obtain rfl : f2 = .nil := fx_nil_of HF.out hlt
            have hfa := HF.out
            rw [Fx.app_nil] at hfa
            subst hfa
            go_wp2_with fail
            go_at_call 81
            refine (bindAll_any fd ob fb (N + 1 + ns.length + b.len + 3 * a.cost + 3 * b.cost) M _ b _ (-1) _ HR.out.fd HR.out.op hM1 (HC.out _ HT.out).ex.b (Nat.le_trans hMW HT.out.size) (by omega) (by omega) (nm_bn HNm.out) (.inr rfl) (fun x => by have := HCn.out x; have := hc x; omega)).mono ?_
            rintro e w6 ⟨⟨v6, rfl⟩, ho6, hg6⟩
            have HS6 := Lib.hid (HR.out.turn ho6 hg6 (by omega))
            have HT6 := Lib.hid (HT.out.trans (Two.ob hg6))
            clear ho6 hg6 e0 e1 e2 e3 e4 e5 e6 e7
            obtain ⟨_, e0, e1, e2, e3, e4, e5, e6, e7, _⟩ := HC.out w6 HT6.out
            go_wp2_with fail
            go_at_call 80
            refine (bind_any fd ob fb (N + 1 + ns.length + b.len + 3 * a.cost + 3 * b.cost + b.len) M _ ns _ (-1) w6 HS6.out.fd HS6.out.op hM1 (HC.out w6 HT6.out).ex.ns (Nat.le_trans hMW HT6.out.size) (by omega) (by omega) (nm_ns HNm.out) (.inr rfl) (fun x => by have := HCn.out x; have := hc x; have := occ_le x (bnames b); have := bnames_len b; omega)).mono ?_
            rintro e w7 ⟨⟨v7, rfl⟩, ho7, hg7⟩
            have hback : (fun x => cnt2 x + -1 * (occ x (bnames b) : Int) + -1 * (occ x ns : Int)) = cnt := by
              rw [← HEq.out.1]
              funext x
              dsimp only
              omega
            have h7 := HS6.out.turn ho7 hg7 (Nat.le_add_right _ _)
            rw [hback] at h7
            have HS7 := Lib.hid h7
            have HT7 := Lib.hid (HT6.out.trans (Two.ob hg7))
            clear ho7 hg7 h7 hback e0 e1 e2 e3 e4 e5 e6 e7
            obtain ⟨_, e0, e1, e2, e3, e4, e5, e6, e7, _⟩ := HC.out w7 HT7.out
            have HZ := Lib.hid (open_eq HEq.out.1 (fun x => (hc x).1))
            cases hk6 : (k == 6) with
            | false =>
              go_wp2_with fail
              go_end0
              refine ⟨⟨_, rfl⟩, ?_, HT7.out⟩
              have e : (fun x => F1 x || (decide (cnt2 x = 0) && (fvF x false a || fvF x false b))) = fun x => F x || (decide (cnt x = 0) && fvE x k s ns a b c) := by
                funext x
                rw [HZ.out x, ← HEq.out.2]
                unfold fvE
                have h := bool_id (F x) (decide (cnt x = 0)) ((k == 1) && decide (x = s)) (decide (x ∈ ns)) (decide (x ∈ bnames b)) (fvF x false a || fvF x false b) ((k == 6) && !decide (x = s) && fvF x true c)
                rw [← h, hk6]
                simp
              have h8 := HS7.out
              rw [e] at h8
              exact h8.mono (by omega)
            | true =>
              have hk7 : k = 6 := by simpa using hk6
              have hcall := HA bk of s nn op _ _ _ _ ns a b c w7 cnt _ _ (by have := parts_count a b c; omega) (hk7 ▸ HC.out w7 HT7.out) (Nat.le_trans hMW HT7.out.size) HS7.out HNm.out (by omega) hc hce
              have HCa := Lib.hid hcall
              clear hcall
              go_wp2_with fail
              go_at_call 82
              refine HCa.out.mono ?_
              rintro e w8 ⟨⟨v8, rfl⟩, hs8, ht8⟩
              have HS8 := Lib.hid hs8
              have HT8 := Lib.hid (HT7.out.trans ht8)
              clear hs8 ht8 HCa
              go_wp2_with fail
              go_end0
              refine ⟨⟨_, rfl⟩, ?_, HT8.out⟩
              have e : (fun x => (F1 x || (decide (cnt2 x = 0) && (fvF x false a || fvF x false b))) || (decide (cnt x = 0) && (!decide (x = s) && fvF x true c))) = fun x => F x || (decide (cnt x = 0) && fvE x k s ns a b c) := by
                funext x
                rw [HZ.out x, ← HEq.out.2]
                unfold fvE
                have h := bool_id (F x) (decide (cnt x = 0)) ((k == 1) && decide (x = s)) (decide (x ∈ ns)) (decide (x ∈ bnames b)) (fvF x false a || fvF x false b) ((k == 6) && !decide (x = s) && fvF x true c)
                rw [← h, hk6]
                simp
              have h9 := HS8.out
              rw [e] at h9
              exact h9.mono (by omega)
end Go.Proofs.YtfcogjlojfcfkaaGreat
