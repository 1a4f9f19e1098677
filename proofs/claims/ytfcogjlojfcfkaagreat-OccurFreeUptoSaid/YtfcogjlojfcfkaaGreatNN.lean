/- The contract of the law's bare. A bound on how many expressions there are. -/
import Derived.Test.YtfcogjlojfcfkaaGreatMA
import Derived.Test.YtfcogjlojfcfkaaGreatRows
import Derived.Test.YtfcogjlojfcfkaaGreatMO
import Derived.Test.YtfcogjlojfcfkaaGreatNA
section
namespace Go.Proofs.YtfcogjlojfcfkaaGreat
open Go.RowKit Ex0
attribute [local go_sem] bt_size bt_list bt_toList

def BarePost (w : World) (e : Ending) (w' : World) : Prop := (∃ v : Bool, e = .returned (.bool v)) ∧ Below w.heap.size w w'

set_option maxHeartbeats 2000000 in
set_option maxRecDepth 100000 in
theorem bare_any (n : Nat) : ∀ (k : Int) (s : List UInt8) (nn op : Int) (vn va vb vc : Value) (ns : List (List UInt8)) (a b c : Fx) (w : World), (parts a b c).count < n → (parts a b c).count ≤ 1048576 →
    ExV (Old w.heap.size) w vn va vb vc ns a b c → Calls Tryz.prog 5 #[exV k s nn op vn va vb vc] w (BarePost w) := by
  induction n with
  | zero => intro _ _ _ _ _ _ _ _ _ _ _ _ _ h; omega
  | succ n ih =>
    intro k s nn op vn va vb vc ns a b c w hn hb hv
    obtain ⟨an, cn, rfl⟩ := hv.ns.slice
    obtain ⟨aa, ca, rfl⟩ := hv.a.slice
    obtain ⟨ab, cb, rfl⟩ := hv.b.slice
    obtain ⟨ac, cc, rfl⟩ := hv.c.slice
    have HV := Lib.hid hv
    have hlen : a.len + b.len + c.len ≤ 1048576 := by have := (parts a b c).len_le; rw [parts_len] at this; omega
    have HN := Lib.hid (And.intro hn hb)
    clear hv hn hb
    unfold exV
    cases hk : (k == 1) with
    | true =>
      go_enter Tryz.func5, Tryz.ntmps5
      go_wp2_with fail
      go_ret
      exact ⟨⟨_, rfl⟩, below_alloc' _ _⟩
    | false =>
      go_enter Tryz.func5, Tryz.ntmps5
      go_wp2_with fail
      go_loopw [4] (fun i wr => ∃ (f1 f2 : Fx), a = f1.app f2 ∧ i = .int .i64 f1.len ∧ Below (w.heap.size + 1) (w.alloc (exBox k s nn op (.slice an ns.length cn) (.slice aa a.len ca) (.slice ab b.len cb) (.slice ac c.len cc))) wr) (fun i _ => a.len - (intOf i).toNat)
      case atStart => exact ⟨.nil, a, rfl, rfl, Below.refl _ _⟩
      case round =>
        obtain ⟨f1, f2, hf, rfl, hbel⟩ := hrel
        have HW := hbel.size
        simp only [World.size_alloc] at HW
        obtain ⟨b0, b1, b2, b3, b4, b5, b6, b7⟩ := exBox_cell (Nat.lt_succ_self _) hbel
        have HB0 := Lib.hid hbel
        have HO0 := Lib.hid (below_old hbel)
        have HF := Lib.hid hf
        have hfl := congrArg Fx.len hf
        rw [Fx.len_app] at hfl
        clear hbel hf
        cases f2 with
        | nil =>
          have hlt : ¬ f1.len < a.len := by simp only [Fx.len] at hfl; omega
          clear hfl HF
          go_wp2_with fail
          go_loopw [5] (fun i wr => ∃ (f1 f2 : Fx), b = f1.app f2 ∧ i = .int .i64 f1.len ∧ Below (w.heap.size + 1) (w.alloc (exBox k s nn op (.slice an ns.length cn) (.slice aa a.len ca) (.slice ab b.len cb) (.slice ac c.len cc))) wr) (fun i _ => b.len - (intOf i).toNat)
          case atStart => exact ⟨.nil, b, rfl, rfl, HB0.out⟩
          case round =>
            obtain ⟨f1, f2, hf, rfl, hbel⟩ := hrel
            have HW := hbel.size
            simp only [World.size_alloc] at HW
            obtain ⟨b0, b1, b2, b3, b4, b5, b6, b7⟩ := exBox_cell (Nat.lt_succ_self _) hbel
            have HB1 := Lib.hid hbel
            have HO1 := Lib.hid (below_old hbel)
            have HF := Lib.hid hf
            have hfl := congrArg Fx.len hf
            rw [Fx.len_app] at hfl
            clear hbel hf
            cases f2 with
            | nil =>
              have hlt : ¬ f1.len < b.len := by simp only [Fx.len] at hfl; omega
              clear hfl HF
              go_wp2_with fail
              go_loopw [6] (fun i wr => ∃ (f1 f2 : Fx), c = f1.app f2 ∧ i = .int .i64 f1.len ∧ Below (w.heap.size + 1) (w.alloc (exBox k s nn op (.slice an ns.length cn) (.slice aa a.len ca) (.slice ab b.len cb) (.slice ac c.len cc))) wr) (fun i _ => c.len - (intOf i).toNat)
              case atStart => exact ⟨.nil, c, rfl, rfl, HB1.out⟩
              case round =>
                obtain ⟨f1, f2, hf, rfl, hbel⟩ := hrel
                have HW := hbel.size
                simp only [World.size_alloc] at HW
                obtain ⟨b0, b1, b2, b3, b4, b5, b6, b7⟩ := exBox_cell (Nat.lt_succ_self _) hbel
                have HB2 := Lib.hid hbel
                have HO2 := Lib.hid (below_old hbel)
                have HF := Lib.hid hf
                have hfl := congrArg Fx.len hf
                rw [Fx.len_app] at hfl
                clear hbel hf
                cases f2 with
                | nil =>
                  have hlt : ¬ f1.len < c.len := by simp only [Fx.len] at hfl; omega
                  clear hfl HF
                  go_wp2_with fail
                  go_ret
                  exact ⟨⟨_, rfl⟩, HO2.out⟩
                | cons p1 k1 s1 n1 op1 ns1 x y z r =>
                  have hlt : f1.len < c.len := by simp only [Fx.len] at hfl; omega
                  obtain ⟨bb, oo, xn, xa, xb, xc, e0, hbb, hlc, hcm, hlt1, hp, c0, c1, c2, c3, c4, c5, c6, c7, hx⟩ := fx_at (HV.out.c.keep (keep_below HO2.out fun _ h => h)) HF.out
                  cases e0
                  cases p1 with
                  | no => exact absurd (show (4 : Nat) = 0 from hp) (by decide)
                  | bind t => exact absurd hp.1 (by decide)
                  | alt k0 s0 n0 ns0 =>
                      obtain ⟨yn, qn, rfl⟩ := hx.ns.slice
                      obtain ⟨ya, qa, rfl⟩ := hx.a.slice
                      obtain ⟨yb, qb, rfl⟩ := hx.b.slice
                      obtain ⟨yc, qc, rfl⟩ := hx.c.slice
                      have HX := Lib.hid (hx.keep (keep_le wr (fun q (hq : q < w.heap.size) => (by show q < wr.heap.size; omega : Old wr.heap.size q))))
                      have hbb' : bb < w.heap.size := hbb
                      have hcx : (parts x y z).count < n ∧ (parts x y z).count ≤ 1048576 := by
                        have h1 := congrArg Fx.count HF.out
                        rw [Fx.count_app] at h1
                        have h2 := parts_count a b c
                        have h3 := parts_count x y z
                        have h4 : (Fx.cons (.alt k0 s0 n0 ns0) k1 s1 n1 op1 ns1 x y z r).count = 1 + x.count + y.count + z.count + r.count := by simp only [Fx.count]; omega
                        have h5 := HN.out
                        omega
                      have HC := Lib.hid hcx
                      simp only [Nat.add_zero, Nat.zero_add, Nat.reduceAdd] at c0 c1 c2 c3 c4 c5 c6 c7
                      clear hx hbb hp hcx hfl
                      unfold maxLen at hcm
                      go_wp2_with fail
                      go_at_call 5
                      refine (ih k1 s1 n1 op1 _ _ _ _ ns1 x y z _ HC.out.1 HC.out.2 HX.out).mono ?_
                      rintro e w3 ⟨⟨v3, rfl⟩, hb3⟩
                      have HB3 := Lib.hid (show Below (w.heap.size + 1) (w.alloc (exBox k s nn op (.slice an ns.length cn) (.slice aa a.len ca) (.slice ab b.len cb) (.slice (some ⟨bb, oo, none⟩) c.len cc))) w3 from blwS HB2.out hb3 HW)
                      clear hb3
                      cases v3 with
                      | false =>
                        go_wp2_with fail
                        go_ret
                        exact ⟨⟨_, rfl⟩, below_old HB3.out⟩
                      | true =>
                        go_wp2_with fail
                        go_roundw
                        case rel => exact ⟨f1.app (.cons (.alt k0 s0 n0 ns0) k1 s1 n1 op1 ns1 x y z .nil), r, by rw [Fx.app_app]; exact HF.out, by rw [Fx.len_app]; simp only [Fx.len]; go_num, HB3.out⟩
                        case measure => simp [intOf]; omega
            | cons p1 k1 s1 n1 op1 ns1 x y z r =>
              have hlt : f1.len < b.len := by simp only [Fx.len] at hfl; omega
              obtain ⟨bb, oo, xn, xa, xb, xc, e0, hbb, hlc, hcm, hlt1, hp, c0, c1, c2, c3, c4, c5, c6, c7, hx⟩ := fx_at (HV.out.b.keep (keep_below HO1.out fun _ h => h)) HF.out
              cases e0
              cases p1 with
              | no => exact absurd (show (1 : Nat) = 0 from hp) (by decide)
              | alt k s n ns => exact absurd hp.1 (by decide)
              | bind t =>
                  obtain ⟨yn, qn, rfl⟩ := hx.ns.slice
                  obtain ⟨ya, qa, rfl⟩ := hx.a.slice
                  obtain ⟨yb, qb, rfl⟩ := hx.b.slice
                  obtain ⟨yc, qc, rfl⟩ := hx.c.slice
                  have HX := Lib.hid (hx.keep (keep_le wr (fun q (hq : q < w.heap.size) => (by show q < wr.heap.size; omega : Old wr.heap.size q))))
                  have hbb' : bb < w.heap.size := hbb
                  have hcx : (parts x y z).count < n ∧ (parts x y z).count ≤ 1048576 := by
                    have h1 := congrArg Fx.count HF.out
                    rw [Fx.count_app] at h1
                    have h2 := parts_count a b c
                    have h3 := parts_count x y z
                    have h4 : (Fx.cons (.bind t) k1 s1 n1 op1 ns1 x y z r).count = 1 + x.count + y.count + z.count + r.count := by simp only [Fx.count]; omega
                    have h5 := HN.out
                    omega
                  have HC := Lib.hid hcx
                  simp only [Nat.add_zero, Nat.zero_add, Nat.reduceAdd] at c0 c1 c2 c3 c4 c5 c6 c7
                  clear hx hbb hp hcx hfl
                  unfold maxLen at hcm
                  go_wp2_with fail
                  go_at_call 5
                  refine (ih k1 s1 n1 op1 _ _ _ _ ns1 x y z _ HC.out.1 HC.out.2 HX.out).mono ?_
                  rintro e w3 ⟨⟨v3, rfl⟩, hb3⟩
                  have HB3 := Lib.hid (show Below (w.heap.size + 1) (w.alloc (exBox k s nn op (.slice an ns.length cn) (.slice aa a.len ca) (.slice (some ⟨bb, oo, none⟩) b.len cb) (.slice ac c.len cc))) w3 from blwS HB1.out hb3 HW)
                  clear hb3
                  cases v3 with
                  | false =>
                    go_wp2_with fail
                    go_ret
                    exact ⟨⟨_, rfl⟩, below_old HB3.out⟩
                  | true =>
                    go_wp2_with fail
                    go_roundw
                    case rel => exact ⟨f1.app (.cons (.bind t) k1 s1 n1 op1 ns1 x y z .nil), r, by rw [Fx.app_app]; exact HF.out, by rw [Fx.len_app]; simp only [Fx.len]; go_num, HB3.out⟩
                    case measure => simp [intOf]; omega
        | cons p1 k1 s1 n1 op1 ns1 x y z r =>
          have hlt : f1.len < a.len := by simp only [Fx.len] at hfl; omega
          obtain ⟨bb, oo, xn, xa, xb, xc, e0, hbb, hlc, hcm, hlt1, hp, c0, c1, c2, c3, c4, c5, c6, c7, hx⟩ := fx_at (HV.out.a.keep (keep_below HO0.out fun _ h => h)) HF.out
          cases e0
          cases p1 with
          | bind t => exact absurd hp.1 (by decide)
          | alt k s n ns => exact absurd hp.1 (by decide)
          | no =>
              obtain ⟨yn, qn, rfl⟩ := hx.ns.slice
              obtain ⟨ya, qa, rfl⟩ := hx.a.slice
              obtain ⟨yb, qb, rfl⟩ := hx.b.slice
              obtain ⟨yc, qc, rfl⟩ := hx.c.slice
              have HX := Lib.hid (hx.keep (keep_le wr (fun q (hq : q < w.heap.size) => (by show q < wr.heap.size; omega : Old wr.heap.size q))))
              have hbb' : bb < w.heap.size := hbb
              have hcx : (parts x y z).count < n ∧ (parts x y z).count ≤ 1048576 := by
                have h1 := congrArg Fx.count HF.out
                rw [Fx.count_app] at h1
                have h2 := parts_count a b c
                have h3 := parts_count x y z
                have h4 : (Fx.cons .no k1 s1 n1 op1 ns1 x y z r).count = 1 + x.count + y.count + z.count + r.count := by simp only [Fx.count]; omega
                have h5 := HN.out
                omega
              have HC := Lib.hid hcx
              simp only [Nat.add_zero, Nat.zero_add, Nat.reduceAdd] at c0 c1 c2 c3 c4 c5 c6 c7
              clear hx hbb hp hcx hfl
              unfold maxLen at hcm
              go_wp2_with fail
              go_at_call 5
              refine (ih k1 s1 n1 op1 _ _ _ _ ns1 x y z _ HC.out.1 HC.out.2 HX.out).mono ?_
              rintro e w3 ⟨⟨v3, rfl⟩, hb3⟩
              have HB3 := Lib.hid (show Below (w.heap.size + 1) (w.alloc (exBox k s nn op (.slice an ns.length cn) (.slice (some ⟨bb, oo, none⟩) a.len ca) (.slice ab b.len cb) (.slice ac c.len cc))) w3 from blwS HB0.out hb3 HW)
              clear hb3
              cases v3 with
              | false =>
                go_wp2_with fail
                go_ret
                exact ⟨⟨_, rfl⟩, below_old HB3.out⟩
              | true =>
                go_wp2_with fail
                go_roundw
                case rel => exact ⟨f1.app (.cons .no k1 s1 n1 op1 ns1 x y z .nil), r, by rw [Fx.app_app]; exact HF.out, by rw [Fx.len_app]; simp only [Fx.len]; go_num, HB3.out⟩
                case measure => simp [intOf]; omega
end Go.Proofs.YtfcogjlojfcfkaaGreat
end

section
namespace Go.Proofs.YtfcogjlojfcfkaaGreat
open Go.ChangeShapes Go.WideShapes Go.ChangeAt Go.RowKit Go.Deep Ex0

theorem own : ownKnob Tryz.prog.godebug = none := by kernel_rfl
theorem laidOut : laidOutB Tryz.prog = true := by kernel_rfl
noncomputable def exFs : Array Field := (Tryz.prog.underlying 27).elim #[] fun | .struct fs => fs | _ => #[]
noncomputable def bdFs : Array Field := (Tryz.prog.underlying 38).elim #[] fun | .struct fs => fs | _ => #[]
noncomputable def alFs : Array Field := (Tryz.prog.underlying 40).elim #[] fun | .struct fs => fs | _ => #[]
theorem exProg : ExProg Tryz.prog 27 38 40 9 22 23 24 25 exFs bdFs alFs :=
  ⟨by kernel_rfl, by kernel_rfl, by kernel_rfl, by kernel_rfl, by kernel_rfl, by kernel_rfl, by kernel_rfl, by kernel_rfl, by kernel_rfl, by kernel_rfl, by kernel_rfl, by kernel_rfl, by kernel_rfl, by kernel_rfl, by kernel_rfl, by kernel_rfl,
   by kernel_rfl, by kernel_rfl, by kernel_rfl, by kernel_rfl, by kernel_rfl, by kernel_rfl, by kernel_rfl, by kernel_rfl, by kernel_rfl, by kernel_rfl, by kernel_rfl, by kernel_rfl, by kernel_rfl, by kernel_rfl⟩

theorem bulkAll_sum {H : Type} (l : List (DataW H)) : (l.map Rows.uptoBulk).sum = Rows.uptoBulkAll l := by
  induction l with
  | nil => rfl
  | cons x r ih => simp only [List.map_cons, List.sum_cons, Rows.uptoBulkAll, ih]
theorem bulk_pos {H : Type} (d : DataW H) : 1 ≤ Rows.uptoBulk d := by
  cases d with
  | lit l => cases l <;> simp [Rows.uptoBulk]
  | nil => simp [Rows.uptoBulk]
  | ptr d => simp [Rows.uptoBulk]
  | slice elems spare => simp [Rows.uptoBulk]
  | agg parts => simp [Rows.uptoBulk]
  | iface t d => simp [Rows.uptoBulk]
  | map entries => simp [Rows.uptoBulk]
  | held h => simp [Rows.uptoBulk]
theorem bulk_is {H : Type} : Bulk (Rows.uptoBulk (H := H)) :=
  ⟨fun l => by rw [bulkAll_sum]; simp [Rows.uptoBulk], fun l r => by rw [bulkAll_sum]; simp only [Rows.uptoBulk]; omega, fun l => by simp [Rows.uptoBulk], bulk_pos⟩

section
variable {H : Type} {enc : TypeId × Value → H} {W : World} {base : Nat}
set_option maxRecDepth 100000 in
/-- An expression. -/
theorem open_ex {v : Value} {d : DataW H} {p : List MemPlace} (hv : Value.okWide Tryz.prog W .any base 27 v) (h : DataW.Trod enc Tryz.prog W 0 (fun _ => true) true 27 v d p) :
    ∃ (k : Int) (s : List UInt8) (n op : Int) (vn va vb vc : Value) (ns : List (List UInt8)) (a b c : Fx), v = exV k s n op vn va vb vc ∧ ExV (Old W.heap.size) W vn va vb vc ns a b c ∧ 8 * (parts a b c).count + 8 ≤ Rows.uptoBulk d ∧ a.wt + b.wt + c.wt + nsWt ns + 8 ≤ Rows.uptoBulk d := by
  obtain ⟨cs, rfl, _⟩ := okWide_struct exProg.under hv
  obtain ⟨fuel, hf⟩ := h
  obtain ⟨k, s, n, op, vn, va, vb, vc, ns, a, b, c, e, hx, hw⟩ := ex_trod bulk_is exProg _ _ _ hf
  refine ⟨k, s, n, op, vn, va, vb, vc, ns, a, b, c, ?_, hx, ?_⟩
  · obtain ⟨l⟩ := cs
    simp only [Value.cells] at e
    unfold exV
    rw [e]
  · have h1 := a.count_wt
    have h2 := b.count_wt
    have h3 := c.count_wt
    dsimp only at hw
    rw [parts_count]
    exact ⟨by omega, by omega⟩
end
end Go.Proofs.YtfcogjlojfcfkaaGreat
end

section
namespace Go.Proofs.YtfcogjlojfcfkaaGreat
open Go.ChangeShapes Go.WideShapes Go.ChangeAt Go.RowKit Go.Deep Ex0

theorem ns_len_wt (ns : List (List UInt8)) : ns.length ≤ nsWt ns := by
  induction ns with
  | nil => exact Nat.le_refl _
  | cons x r ih => simp only [nsWt, List.map_cons, List.sum_cons, List.length_cons] at ih ⊢; omega
theorem ns_mem_wt {ns : List (List UInt8)} : ∀ x ∈ ns, x.length ≤ nsWt ns := by
  induction ns with
  | nil => intro x hx; cases hx
  | cons y r ih =>
    intro x hx
    simp only [nsWt, List.map_cons, List.sum_cons] at ih ⊢
    rcases List.mem_cons.1 hx with rfl | hx
    · omega
    · have := ih x hx
      omega
theorem nm_wt : ∀ f : Fx, f.wt ≤ maxLen → nmF f = true := by
  intro f
  induction f with
  | nil => intro _; rfl
  | cons p k s n op ns a b c r iha ihb ihc ihr =>
    intro h
    simp only [Fx.wt] at h
    simp only [nmF, Bool.and_eq_true, List.all_eq_true, decide_eq_true_eq]
    refine ⟨⟨⟨⟨⟨⟨⟨by omega, fun x hx => by have := ns_mem_wt x hx; omega⟩, fun x hx => ?_⟩, fun x hx => ?_⟩, iha (by omega)⟩, ihb (by omega)⟩, ihc (by omega)⟩, ihr (by omega)⟩
    · cases p with
      | no => cases hx
      | bind s' => cases hx
      | alt k' s' n' ns' =>
        have := ns_mem_wt (ns := ns') x hx
        simp only [Pre.wt] at h
        omega
    · cases p with
      | no => cases hx
      | alt k' s' n' ns' => cases hx
      | bind s' =>
        simp only [bnames, List.mem_cons, List.not_mem_nil, or_false] at hx
        subst hx
        simp only [Pre.wt] at h
        omega
theorem bytes_wt : ∀ f : Fx, bytesF f + 72 * f.len + 16 * altNames (pres f) ≤ 32 * f.wt := by
  intro f
  induction f with
  | nil => exact Nat.le_refl _
  | cons p k s n op ns a b c r iha ihb ihc ihr =>
    have h1 := ns_len_wt ns
    simp only [Fx.wt, bytesF, Fx.len, pres, ownBytes, nameCnt]
    cases p with
    | no => simp only [altNames, Pre.wt] at *; omega
    | bind s' => simp only [altNames, Pre.wt] at *; omega
    | alt k' s' n' ns' =>
      have h2 := ns_len_wt ns'
      simp only [altNames, Pre.wt] at *
      omega
/-- An expression that is not too great. -/
structure OkE (s : List UInt8) (ns : List (List UInt8)) (a b c : Fx) : Prop where
  nm : nmE s ns a b c = true
  ce : costE ns a b c ≤ 1048576
  cnt : (parts a b c).count + 1 ≤ 131072
  by_ : ownBytes ns b c + bytesF (parts a b c) ≤ 33554464
theorem okE_wt {s : List UInt8} {ns : List (List UInt8)} {a b c : Fx} (h : s.length + nsWt ns + a.wt + b.wt + c.wt + 9 ≤ 1048577) : OkE s ns a b c := by
  have hm : (1048577 : Nat) ≤ maxLen := by decide
  have h1 := a.count_wt9
  have h2 := b.count_wt9
  have h3 := c.count_wt9
  have h4 := costE_wt ns a b c
  have h5 := bytes_wt a
  have h6 := bytes_wt b
  have h7 := bytes_wt c
  have h8 := ns_len_wt ns
  refine ⟨?_, by omega, by rw [parts_count]; omega, by rw [bytes_parts]; unfold ownBytes nameCnt; omega⟩
  unfold nmE
  simp only [Bool.and_eq_true, List.all_eq_true, decide_eq_true_eq]
  exact ⟨⟨⟨⟨by omega, fun x hx => by have := ns_mem_wt x hx; omega⟩, nm_wt a (by omega)⟩, nm_wt b (by omega)⟩, nm_wt c (by omega)⟩
section
variable {H : Type} {enc : TypeId × Value → H} {W : World} {base : Nat}
set_option maxRecDepth 100000 in
/-- An expression, its own name too. -/
theorem open_exs {v : Value} {d : DataW H} {p : List MemPlace} (hv : Value.okWide Tryz.prog W .any base 27 v) (h : DataW.Trod enc Tryz.prog W 0 (fun _ => true) true 27 v d p) :
    ∃ (k : Int) (s : List UInt8) (n op : Int) (vn va vb vc : Value) (ns : List (List UInt8)) (a b c : Fx), v = exV k s n op vn va vb vc ∧ ExV (Old W.heap.size) W vn va vb vc ns a b c ∧ s.length + nsWt ns + a.wt + b.wt + c.wt + 9 ≤ Rows.uptoBulk d := by
  obtain ⟨cs, rfl, _⟩ := okWide_struct exProg.under hv
  obtain ⟨fuel, hf⟩ := h
  obtain ⟨k, s, n, op, vn, va, vb, vc, ns, a, b, c, e, hx, hw⟩ := ex_trod bulk_is exProg _ _ _ hf
  refine ⟨k, s, n, op, vn, va, vb, vc, ns, a, b, c, ?_, hx, hw⟩
  obtain ⟨l⟩ := cs
  simp only [Value.cells] at e
  unfold exV
  rw [e]
end
end Go.Proofs.YtfcogjlojfcfkaaGreat
end
