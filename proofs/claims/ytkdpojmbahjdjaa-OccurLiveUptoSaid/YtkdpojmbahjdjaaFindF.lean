/- The finder's maps: how many binders of a name are open. A bound on how many names there are. -/
import Derived.Test.YtkdpojmbahjdjaaIter
import Derived.Test.YtkdpojmbahjdjaaLeafL
import Derived.Test.YtkdpojmbahjdjaaLeafF
import Derived.Test.YtkdpojmbahjdjaaVis
import Derived.Maps.Views
namespace Go.Proofs.Ytkdpojmbahjdjaa
section
open Go.RowKit Ex0 Go.Maps
attribute [local go_sem] bt_size bt_list bt_toList

/-- The map of open binders, as a function of the name. -/
def OpenAt (W : World) (ob N : Nat) (cnt : List UInt8 → Int) : Prop := ∃ D : DataW Unit, W.ownsMap Try.prog 9 (plainElem (H := Unit) Try.prog 3) ob N D ∧ IsMap D ∧ ∀ x, D.atKey (.string x) (.lit (.int .i64 0)) = .lit (.int .i64 (cnt x))

theorem int_lit : Try.prog.underlying 3 = some (.int .i64) := by kernel_rfl
theorem key_of (s : List UInt8) (hs : s.length ≤ maxLen) : keyOf Try.prog 9 (.string (bt s)) = some (.string s) := by
  have := WideMaps.keyOf_string_mk (P := Try.prog) (k := 9) (s := bt s) (by kernel_rfl) (by rw [bt_size]; exact hs)
  exact this
theorem lit_inj {x y : Int} (h : (DataW.lit (.int .i64 x) : DataW Unit) = .lit (.int .i64 y)) : x = y := congrArg (fun d : DataW Unit => match d with | .lit (.int _ n) => n | _ => 0) h

theorem OpenAt.look {W : World} {ob N : Nat} {cnt : List UInt8 → Int} (h : OpenAt W ob N cnt) (s : List UInt8) (hs : s.length ≤ maxLen) :
    (Instr.lookup 44 (.map (some ob)) (.string (bt s)) false).run Try.prog W = .ok (.int .i64 (cnt s)) W := by
  obtain ⟨D, ho, hm, hc⟩ := h
  obtain ⟨c, hrun, hat, _⟩ := ho.lookup_int (string_keyed (by kernel_rfl)) (t := 44) (e := 3) (by kernel_rfl) int_lit (Try.zeroValue3 W) (key_of s hs)
  rw [hc] at hat
  rw [hrun, lit_inj hat]
theorem OpenAt.put {W : World} {ob N : Nat} {cnt : List UInt8 → Int} (h : OpenAt W ob N cnt) (s : List UInt8) (hs : s.length ≤ maxLen) (v : Int) (hv : (Lit.int .i64 v).wf = true) (hN : N < maxLen) :
    ∃ W', (Instr.mapUpdate 44 (.map (some ob)) (.string (bt s)) (.int .i64 v)).run Try.prog W = .ok () W' ∧ OpenAt W' ob (N + 1) (fun x => if x = s then v else cnt x) ∧ W.grownBy W' (some ob) := by
  obtain ⟨D, ho, hm, hc⟩ := h
  obtain ⟨W', h1, h2, h3⟩ := ho.update (string_keyed (by kernel_rfl)) (t := 44) (e := 3) (by kernel_rfl) hN (key_of s hs) (plainElem_int int_lit hv)
  refine ⟨W', h1, ⟨_, h2, ?_, fun x => ?_⟩, h3⟩
  · obtain ⟨es, rfl⟩ := hm
    exact ⟨_, rfl⟩
  · dsimp only
    by_cases hx : x = s
    · subst hx
      rw [if_pos rfl]
      exact atKey_put_same hm (by simp [WideAt.IsKeyLit]) _ _
    · rw [if_neg hx]
      exact (atKey_put_other (by simpa using hx) _ _).trans (hc x)

theorem wf_int (v : Int) (h1 : -9223372036854775808 ≤ v) (h2 : v ≤ 9223372036854775807) : (Lit.int .i64 v).wf = true := by
  show (decide (IntKind.i64.min ≤ v) && decide (v ≤ IntKind.i64.max)) = true
  rw [Bool.and_eq_true, decide_eq_true_eq, decide_eq_true_eq]
  exact ⟨h1, h2⟩
/-- How often a name stands in a list. -/
def occ (x : List UInt8) (ns : List (List UInt8)) : Nat := ns.countP (fun y => y == x)
theorem occ_take (x : List UInt8) (ns : List (List UInt8)) (j : Nat) (h : j < ns.length) : occ x (ns.take (j + 1)) = occ x (ns.take j) + if x = ns[j] then 1 else 0 := by
  unfold occ
  rw [List.take_succ_eq_append_getElem h, List.countP_append]
  by_cases hx : x = ns[j]
  · simp [hx]
  · simp [hx, Ne.symm hx]
theorem occ_le (x : List UInt8) (ns : List (List UInt8)) : occ x ns ≤ ns.length := List.countP_le_length

/-- The finder and its two maps. -/
structure FdAt (W : World) (fd ob fb : Nat) : Prop where
  cells : W.heap[fd]? = some (.cells #[.map (some ob), .map (some fb)] 131 (0, 0))
  ne : fd ≠ ob ∧ fd ≠ fb ∧ ob ≠ fb
theorem FdAt.kept {W W' : World} {fd ob fb : Nat} (h : FdAt W fd ob fb) (hg : W.grownBy W' (some ob)) : FdAt W' fd ob fb :=
  ⟨(hg.block fd (Array.getElem?_eq_some_iff.1 h.cells).1 (by simp [h.ne.1])).trans h.cells, h.ne⟩

set_option maxHeartbeats 1000000 in
theorem bind_any (fd ob fb N M : Nat) (cnt : List UInt8 → Int) (ns : List (List UInt8)) (vn : Value) (t : Int) (W : World) (hf : FdAt W fd ob fb) (ho : OpenAt W ob N cnt) (hM : M ≤ ob) (hns : NsV (Old M) W vn ns) (hMW : M ≤ W.heap.size) (hl : ns.length ≤ 1048576) (hN : N + ns.length ≤ 1099511627776)
    (hs : ∀ x ∈ ns, x.length ≤ maxLen) (ht : t = 1 ∨ t = -1) (hc : ∀ x, -1099511627776 ≤ cnt x ∧ cnt x ≤ 1099511627776) :
    Calls Try.prog 75 #[.pointer (some ⟨fd, 0, none⟩), .int .i64 t, vn] W fun e w' => (∃ v, e = .returned v) ∧ OpenAt w' ob (N + ns.length) (fun x => cnt x + t * occ x ns) ∧ W.grownBy w' (some ob) := by
  obtain ⟨an, cn, rfl⟩ := hns.slice
  have HO := Lib.hid ho
  have HF := Lib.hid hf
  have HNs := Lib.hid hns
  clear ho hf
  go_enter Try.func75, Try.ntmps75
  go_wp2_with fail
  go_loopw [10] (fun i wr => ∃ j : Nat, j ≤ ns.length ∧ i = .int .i64 j ∧ OpenAt wr ob (N + j) (fun x => cnt x + t * occ x (ns.take j)) ∧ W.grownBy wr (some ob)) (fun i _ => ns.length - (intOf i).toNat)
  case atStart => exact ⟨0, Nat.zero_le _, rfl, by simpa [occ] using HO.out, ⟨rfl, rfl, rfl, Nat.le_refl _, fun _ _ _ => rfl⟩⟩
  case round =>
    obtain ⟨j, hj, rfl, hop, hg⟩ := hrel
    have HOp := Lib.hid hop
    have HG := Lib.hid hg
    by_cases hlt : j < ns.length
    · obtain ⟨hx, _⟩ | ⟨_, b, o, c, hv, hb, hlc, hcm, ha⟩ := HNs.out
      · rw [hx] at hlt
        simp at hlt
      cases hv
      have hbM : b < M := hb
      have g0 := (World.cell?_of_block (w := W) (w' := wr) (a := ⟨b, o + j, none⟩) (hg.block b (by omega) (by simp; omega))).trans (ha j hlt)
      have gf := cell_of (HF.out.kept hg).cells 0 _ rfl
      have hsj := hs _ (List.getElem_mem hlt)
      have hlk := HOp.out.look ns[j] hsj
      have hcj := hc ns[j]
      have hoc := occ_le ns[j] (ns.take j)
      rw [List.length_take] at hoc
      have hw : IntKind.i64.wrap (cnt ns[j] + t * occ ns[j] (ns.take j) + t) = cnt ns[j] + t * occ ns[j] (ns.take j) + t := by
        rw [IntKind.wrap_i64]
        rcases ht with rfl | rfl <;> omega
      obtain ⟨W5, hrun, hop5, hg5⟩ := HOp.out.put ns[j] hsj (cnt ns[j] + t * occ ns[j] (ns.take j) + t) (wf_int _ (by rcases ht with rfl | rfl <;> omega) (by rcases ht with rfl | rfl <;> omega)) (by unfold maxLen; omega)
      have HO5 := Lib.hid hop5
      have HG5 := Lib.hid (hg.trans hg5)
      unfold maxLen at hcm
      clear hop hg hop5 hg5 hoc hcj
      go_wp2_with fail
      go_roundw
      case rel =>
        refine ⟨j + 1, by omega, by go_num, ?_, HG5.out⟩
        have e : (fun x => if x = ns[j] then cnt ns[j] + t * occ ns[j] (ns.take j) + t else cnt x + t * occ x (ns.take j)) = fun x => cnt x + t * occ x (ns.take (j + 1)) := by
          funext x
          rw [occ_take x ns j hlt]
          by_cases hx : x = ns[j]
          · rw [if_pos hx, if_pos hx, hx, Int.natCast_add, Int.mul_add]
            simp
            omega
          · rw [if_neg hx, if_neg hx, Nat.add_zero]
        have := HO5.out
        rw [e] at this
        exact this
      case measure => simp [intOf]; omega
    · obtain rfl : j = ns.length := by omega
      clear hop hg
      go_wp2_with fail
      go_end0
      exact ⟨⟨_, rfl⟩, by have := HOp.out; rwa [List.take_length] at this, HG.out⟩

/-- The names of binds. -/
def bnames : Fx → List (List UInt8)
  | .nil => []
  | .cons (.bind s) _ _ _ _ _ _ _ _ r => s :: bnames r
  | .cons _ _ _ _ _ _ _ _ _ r => bnames r
theorem bnames_one (f : Fx) (s' : List UInt8) (k : Int) (s : List UInt8) (n op : Int) (ns : List (List UInt8)) (a b c : Fx) : bnames (f.app (.cons (.bind s') k s n op ns a b c .nil)) = bnames f ++ [s'] := by
  induction f with
  | nil => rfl
  | cons p k s n op ns a b c r _ _ _ ih => cases p <;> simp only [Fx.app, bnames, ih, List.cons_append]
theorem bnames_len (f : Fx) : (bnames f).length ≤ f.len := by
  induction f with
  | nil => exact Nat.le_refl _
  | cons p k s n op ns a b c r _ _ _ ih => cases p <;> simp only [bnames, Fx.len, List.length_cons] <;> omega
theorem bnames_mem (f r : Fx) (s' : List UInt8) (k : Int) (s : List UInt8) (n op : Int) (ns : List (List UInt8)) (a b c : Fx) : s' ∈ bnames (f.app (.cons (.bind s') k s n op ns a b c r)) := by
  induction f with
  | nil => simp [Fx.app, bnames]
  | cons p k s n op ns a b c r' _ _ _ ih => cases p <;> simp [Fx.app, bnames, ih]
theorem occ_one (x y : List UInt8) (ns : List (List UInt8)) : occ x (ns ++ [y]) = occ x ns + if x = y then 1 else 0 := by
  unfold occ
  rw [List.countP_append]
  by_cases hx : x = y
  · simp [hx]
  · simp [hx, Ne.symm hx]

set_option maxHeartbeats 1000000 in
theorem bindAll_any (fd ob fb N M : Nat) (cnt : List UInt8 → Int) (b : Fx) (vb : Value) (t : Int) (W : World) (hf : FdAt W fd ob fb) (ho : OpenAt W ob N cnt) (hM : M ≤ ob) (hb : FxV (Old M) W 1 vb b) (hMW : M ≤ W.heap.size) (hl : b.len ≤ 1048576) (hN : N + b.len ≤ 1099511627776)
    (hs : ∀ x ∈ bnames b, x.length ≤ maxLen) (ht : t = 1 ∨ t = -1) (hc : ∀ x, -1099511627776 ≤ cnt x ∧ cnt x ≤ 1099511627776) :
    Calls Try.prog 76 #[.pointer (some ⟨fd, 0, none⟩), .int .i64 t, vb] W fun e w' => (∃ v, e = .returned v) ∧ OpenAt w' ob (N + b.len) (fun x => cnt x + t * occ x (bnames b)) ∧ W.grownBy w' (some ob) := by
  obtain ⟨ab, cb, rfl⟩ := hb.slice
  have HO := Lib.hid ho
  have HF := Lib.hid hf
  have HBs := Lib.hid hb
  clear ho hf
  go_enter Try.func76, Try.ntmps76
  go_wp2_with fail
  go_loopw [9] (fun i wr => ∃ f1 f2 : Fx, b = f1.app f2 ∧ i = .int .i64 f1.len ∧ OpenAt wr ob (N + f1.len) (fun x => cnt x + t * occ x (bnames f1)) ∧ W.grownBy wr (some ob)) (fun i _ => b.len - (intOf i).toNat)
  case atStart => exact ⟨.nil, b, rfl, rfl, by simpa [occ, bnames, Fx.len] using HO.out, ⟨rfl, rfl, rfl, Nat.le_refl _, fun _ _ _ => rfl⟩⟩
  case round =>
    obtain ⟨f1, f2, hf, rfl, hop, hg⟩ := hrel
    have HOp := Lib.hid hop
    have HG := Lib.hid hg
    have HFx := Lib.hid hf
    by_cases hlt : f1.len < b.len
    · obtain ⟨p1, k1, s1, n1, op1, ns1, x, y, z, r1, rfl⟩ := fx_cons_of HFx.out hlt
      obtain ⟨bb, oo, wn, wa, wb, wc, hv, hbb, hlc, hcm, _, hpre, _⟩ := fx_at HBs.out HFx.out
      cases hv
      cases p1 with
      | no => exact absurd hpre (by simp [PreAt])
      | alt k2 s2 n2 ns2 => exact absurd hpre.1 (by decide)
      | bind s2 =>
        have hbM : bb < M := hbb
        have g0 := (World.cell?_of_block (w := W) (w' := wr) (a := ⟨bb, oo + f1.len * 9, none⟩) (hg.block bb (by omega) (by simp; omega))).trans hpre.2
        have gf := cell_of (HF.out.kept hg).cells 0 _ rfl
        have hsj := hs s2 (by rw [HFx.out]; exact bnames_mem f1 r1 s2 k1 s1 n1 op1 ns1 x y z)
        have HOd := Lib.hid (show OpenAt wr.drew ob (N + f1.len) (fun x => cnt x + t * occ x (bnames f1)) from let ⟨D, a, b, c⟩ := HOp.out; ⟨D, a, b, c⟩)
        have hlk := HOd.out.look s2 hsj
        have hcj := hc s2
        have hoc := occ_le s2 (bnames f1)
        have hbl := bnames_len f1
        have hw : IntKind.i64.wrap (cnt s2 + t * occ s2 (bnames f1) + t) = cnt s2 + t * occ s2 (bnames f1) + t := by
          rw [IntKind.wrap_i64]
          rcases ht with rfl | rfl <;> omega
        obtain ⟨W5, hrun, hop5, hg5⟩ := HOd.out.put s2 hsj (cnt s2 + t * occ s2 (bnames f1) + t) (wf_int _ (by rcases ht with rfl | rfl <;> omega) (by rcases ht with rfl | rfl <;> omega)) (by unfold maxLen; omega)
        have HO5 := Lib.hid hop5
        have HG5 := Lib.hid (hg.trans (show wr.grownBy W5 (some ob) from ⟨hg5.os, hg5.tape, hg5.output, hg5.size, hg5.block⟩))
        have hb1 := bnames_one f1 s2 k1 s1 n1 op1 ns1 x y z
        unfold maxLen at hcm
        clear hop hg hop5 hg5 hoc hcj hpre hf hbl
        go_wp2_with fail
        refine region_one 12 (by kernel_rfl) (by kernel_rfl) ?_
        simp only [List.take_succ_cons, List.take_zero, List.drop_succ_cons, List.drop_zero]
        refine swk_want (by rfl) (fun K hK => ?_)
        replace hK := Lib.hid hK
        go_simp
        refine hK.out _ ?_
        clear hK K
        refine swk_want (by rfl) (fun K hK => ?_)
        replace hK := Lib.hid hK
        go_simp
        refine hK.out _ ?_
        clear hK K
        refine swk_want (by rfl) (fun K hK => ?_)
        replace hK := Lib.hid hK
        go_simp
        refine hK.out _ ?_
        clear hK K
        refine swk_want (by rfl) (fun K hK => ?_)
        replace hK := Lib.hid hK
        go_simp
        refine hK.out _ ?_
        clear hK K
        refine swk_want (by rfl) (fun K hK => ?_)
        replace hK := Lib.hid hK
        go_simp
        refine hK.out _ ?_
        clear hK K
        refine swk_want (by rfl) (fun K hK => ?_)
        replace hK := Lib.hid hK
        go_simp
        refine hK.out _ ?_
        clear hK K
        refine swk_want (by rfl) (fun K hK => ?_)
        replace hK := Lib.hid hK
        go_simp
        refine hK.out _ ?_
        clear hK K
        refine swk_want (by rfl) (fun K hK => ?_)
        replace hK := Lib.hid hK
        go_simp
        refine hK.out _ ?_
        clear hK K
        refine swk_want (by rfl) (fun K hK => ?_)
        replace hK := Lib.hid hK
        go_simp
        refine hK.out _ ?_
        clear hK K
        refine swk_want (by rfl) (fun K hK => ?_)
        replace hK := Lib.hid hK
        go_simp
        refine hK.out _ ?_
        clear hK K
        refine swk_want (by rfl) (fun K hK => ?_)
        replace hK := Lib.hid hK
        go_simp
        refine hK.out _ ?_
        clear hK K
        refine swk_want (by rfl) (fun K hK => ?_)
        replace hK := Lib.hid hK
        go_simp
        refine hK.out _ ?_
        clear hK K
        refine swk_nil ?_
        refine one_want rfl (by rfl) (fun K hK => ?_)
        replace hK := Lib.hid hK
        go_simp
        refine hK.out _ _ ?_
        clear hK K
        simp only [List.take_succ_cons, List.take_zero, List.drop_succ_cons, List.drop_zero]
        refine swk_nil ?_
        go_wp2_with fail
        go_roundw
        case rel =>
          refine ⟨f1.app (.cons (.bind s2) k1 s1 n1 op1 ns1 x y z .nil), r1, by rw [Fx.app_app]; exact HFx.out, by rw [Fx.len_app]; simp only [Fx.len]; go_num, ?_, HG5.out⟩
          have e : (fun x => if x = s2 then cnt s2 + t * occ s2 (bnames f1) + t else cnt x + t * occ x (bnames f1)) = fun x => cnt x + t * occ x (bnames f1 ++ [s2]) := by
            funext x
            rw [occ_one]
            by_cases hx : x = s2
            · rw [if_pos hx, if_pos hx, hx, Int.natCast_add, Int.mul_add]
              simp
              omega
            · rw [if_neg hx, if_neg hx, Nat.add_zero]
          have := HO5.out
          rw [e] at this
          rw [hb1, Fx.len_app]
          exact this
        case measure => simp [intOf]; omega
    · have e1 := fx_nil_of HFx.out hlt
      subst e1
      rw [Fx.app_nil] at hf
      subst hf
      clear hop hg
      go_wp2_with fail
      go_end0
      exact ⟨⟨_, rfl⟩, HOp.out, HG.out⟩
end

section
open Go.RowKit Ex0 Go.Maps
attribute [local go_sem] bt_size bt_list bt_toList

/-- The set of found names. -/
def FoundAt (W : World) (fb N : Nat) (F : List UInt8 → Bool) : Prop := ∃ D : DataW Unit, W.ownsMap Try.prog 9 (unitElem (H := Unit)) fb N D ∧ IsMap D ∧ ∀ x, Maps.has D (.string x) = F x

theorem FoundAt.put {W : World} {fb N : Nat} {F : List UInt8 → Bool} (h : FoundAt W fb N F) (s : List UInt8) (hs : s.length ≤ maxLen) (hN : N < maxLen) :
    ∃ W', (Instr.mapUpdate 111 (.map (some fb)) (.string (bt s)) (.agg #[])).run Try.prog W = .ok () W' ∧ FoundAt W' fb (N + 1) (fun x => decide (x = s) || F x) ∧ W.grownBy W' (some fb) := by
  obtain ⟨D, ho, hm, hc⟩ := h
  obtain ⟨W', h1, h2, h3⟩ := ho.update (string_keyed (by kernel_rfl)) (t := 111) (e := 112) (by kernel_rfl) hN (key_of s hs) unitElem_mk
  refine ⟨W', h1, ⟨_, h2, ?_, fun x => ?_⟩, h3⟩
  · obtain ⟨es, rfl⟩ := hm
    exact ⟨_, rfl⟩
  · by_cases hx : x = s
    · subst hx
      simp only [decide_true, Bool.true_or]
      exact has_put_same hm (by simp [WideAt.IsKeyLit]) _
    · rw [has_put_other (by simpa using hx), hc]
      simp [hx]
theorem FoundAt.kept {W W' : World} {fb N : Nat} {F : List UInt8 → Bool} {row : Option Nat} (h : FoundAt W fb N F) (hg : W.grownBy W' row) (hne : some fb ≠ row) : FoundAt W' fb N F :=
  let ⟨D, ho, hm, hc⟩ := h; ⟨D, ho.kept hg hne, hm, hc⟩
theorem OpenAt.kept {W W' : World} {ob N : Nat} {cnt : List UInt8 → Int} {row : Option Nat} (h : OpenAt W ob N cnt) (hg : W.grownBy W' row) (hne : some ob ≠ row) : OpenAt W' ob N cnt :=
  let ⟨D, ho, hm, hc⟩ := h; ⟨D, ho.kept hg hne, hm, hc⟩
end

section
open Go.RowKit Ex0 Go.Maps
attribute [local go_sem] bt_size bt_list bt_toList

/-- All blocks but two are as they were. -/
structure Two (ob fb : Nat) (W W' : World) : Prop where
  os : W'.os = W.os
  tape : W'.tape = W.tape
  output : W'.output = W.output
  size : W.heap.size ≤ W'.heap.size
  block : ∀ k, k < W.heap.size → k ≠ ob → k ≠ fb → W'.heap[k]? = W.heap[k]?
theorem Two.refl (ob fb : Nat) (W : World) : Two ob fb W W := ⟨rfl, rfl, rfl, Nat.le_refl _, fun _ _ _ _ => rfl⟩
theorem Two.trans {ob fb : Nat} {A B C : World} (h : Two ob fb A B) (k : Two ob fb B C) : Two ob fb A C :=
  ⟨k.os.trans h.os, k.tape.trans h.tape, k.output.trans h.output, Nat.le_trans h.size k.size, fun i hi h1 h2 => (k.block i (Nat.lt_of_lt_of_le hi h.size) h1 h2).trans (h.block i hi h1 h2)⟩
theorem Two.ob {ob fb : Nat} {A B : World} (h : A.grownBy B (some ob)) : Two ob fb A B := ⟨h.os, h.tape, h.output, h.size, fun k hk h1 _ => h.block k hk (fun e => h1 (Option.some.inj e))⟩
theorem Two.fb {ob fb : Nat} {A B : World} (h : A.grownBy B (some fb)) : Two ob fb A B := ⟨h.os, h.tape, h.output, h.size, fun k hk _ h2 => h.block k hk (fun e => h2 (Option.some.inj e))⟩
theorem Two.draws {ob fb : Nat} (A : World) (n : Nat) : Two ob fb A (A.drewN n) := ⟨rfl, rfl, rfl, Nat.le_refl _, fun _ _ _ _ => rfl⟩
theorem Two.keep {ob fb M : Nat} {A B : World} (h : Two ob fb A B) (h1 : M ≤ ob) (h2 : M ≤ fb) (hM : M ≤ A.heap.size) : Keep (Old M) (Old M) A B :=
  fun b hb => ⟨hb, fun o => World.cell?_of_block (w := A) (w' := B) (a := ⟨b, o, none⟩) (h.block b (Nat.lt_of_lt_of_le hb hM) (by have : b < M := hb; omega) (by have : b < M := hb; omega))⟩
theorem ExL.two {M ob fb : Nat} {W W' : World} {bk of : Nat} {k : Int} {s : List UInt8} {n op : Int} {vn va vb vc : Value} {ns : List (List UInt8)} {a b c : Fx} (h : ExL M W bk of k s n op vn va vb vc ns a b c) (t : Two ob fb W W') (h1 : M ≤ ob) (h2 : M ≤ fb) (hM : M ≤ W.heap.size) :
    ExL M W' bk of k s n op vn va vb vc ns a b c :=
  have q := t.keep h1 h2 hM
  have c := fun o => (q bk h.lt).2 o
  ⟨h.lt, (c _).trans h.c0, (c _).trans h.c1, (c _).trans h.c2, (c _).trans h.c3, (c _).trans h.c4, (c _).trans h.c5, (c _).trans h.c6, (c _).trans h.c7, h.ex.keep q⟩

/-- The finder's state. -/
structure FSt (W : World) (fd ob fb N : Nat) (cnt : List UInt8 → Int) (F : List UInt8 → Bool) : Prop where
  fd : FdAt W fd ob fb
  op : OpenAt W ob N cnt
  fo : FoundAt W fb N F
theorem FdAt.two {W W' : World} {fd ob fb : Nat} (h : FdAt W fd ob fb) (t : Two ob fb W W') : FdAt W' fd ob fb :=
  ⟨(t.block fd (Array.getElem?_eq_some_iff.1 h.cells).1 h.ne.1 h.ne.2.1).trans h.cells, h.ne⟩
theorem OpenAt.mono {W : World} {ob N N' : Nat} {cnt : List UInt8 → Int} (h : OpenAt W ob N cnt) (hN : N ≤ N') : OpenAt W ob N' cnt := let ⟨D, ho, hm, hc⟩ := h; ⟨D, ho.mono hN, hm, hc⟩
theorem FoundAt.mono {W : World} {fb N N' : Nat} {F : List UInt8 → Bool} (h : FoundAt W fb N F) (hN : N ≤ N') : FoundAt W fb N' F := let ⟨D, ho, hm, hc⟩ := h; ⟨D, ho.mono hN, hm, hc⟩
theorem FSt.mono {W : World} {fd ob fb N N' : Nat} {cnt : List UInt8 → Int} {F : List UInt8 → Bool} (h : FSt W fd ob fb N cnt F) (hN : N ≤ N') : FSt W fd ob fb N' cnt F := ⟨h.fd, h.op.mono hN, h.fo.mono hN⟩
/-- Behind a turn of the open binders. -/
theorem FSt.turn {W W' : World} {fd ob fb N N' : Nat} {cnt cnt' : List UInt8 → Int} {F : List UInt8 → Bool} (h : FSt W fd ob fb N cnt F) (ho : OpenAt W' ob N' cnt') (hg : W.grownBy W' (some ob)) (hN : N ≤ N') : FSt W' fd ob fb N' cnt' F :=
  ⟨h.fd.kept hg, ho, (h.fo.kept hg (by simp [Ne.symm h.fd.ne.2.2])).mono hN⟩
theorem FSt.draws {W : World} {fd ob fb N : Nat} {cnt : List UInt8 → Int} {F : List UInt8 → Bool} (h : FSt W fd ob fb N cnt F) (n : Nat) : FSt (W.drewN n) fd ob fb N cnt F :=
  ⟨⟨h.fd.cells, h.fd.ne⟩, let ⟨D, a, b, c⟩ := h.op; ⟨D, a, b, c⟩, let ⟨D, a, b, c⟩ := h.fo; ⟨D, a, b, c⟩⟩

/-- The names that an alternative binds. -/
def altBinds : Pre → List (List UInt8)
  | .alt _ _ _ ns => ns
  | _ => []
/-- Is a name free in one of a row of expressions (of alternatives: where these don't bind it)? -/
def fvF (x : List UInt8) (al : Bool) : Fx → Bool
  | .nil => false
  | .cons p k s _ _ ns a b c r => (!(al && decide (x ∈ altBinds p)) && ((k == 1 && decide (x = s)) || (!decide (x ∈ ns) && !decide (x ∈ bnames b) && (fvF x false a || fvF x false b)) || (k == 6 && !decide (x = s) && fvF x true c))) || fvF x al r
/-- Is it free in an expression? -/
def fvE (x : List UInt8) (k : Int) (s : List UInt8) (ns : List (List UInt8)) (a b c : Fx) : Bool :=
  (k == 1 && decide (x = s)) || (!decide (x ∈ ns) && !decide (x ∈ bnames b) && (fvF x false a || fvF x false b)) || (k == 6 && !decide (x = s) && fvF x true c)
theorem fvF_app (x : List UInt8) (al : Bool) (f g : Fx) : fvF x al (f.app g) = (fvF x al f || fvF x al g) := by
  induction f with
  | nil => rfl
  | cons p k s n op ns a b c r _ _ _ ih => simp only [Fx.app, fvF, ih, Bool.or_assoc]
end
end Go.Proofs.Ytkdpojmbahjdjaa
