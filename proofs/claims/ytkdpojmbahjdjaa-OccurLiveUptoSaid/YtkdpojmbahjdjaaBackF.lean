/- The range over binds, from the last to the first: the iterator of slices.Backward. A bound on how many there are. -/
import Derived.Test.YtkdpojmbahjdjaaNeedF
import Derived.Test.YtkdpojmbahjdjaaRange
import Derived.Test.YtkdpojmbahjdjaaOne
import Derived.Maps.OwnIn
import Derived.Sort.OwnSortedInts
namespace Go.Proofs.Ytkdpojmbahjdjaa
section
section
open Go.RowKit Ex0 Go.Maps Go.Sort Go.Shelf
attribute [local go_sem] bt_size bt_list bt_toList

theorem fx_nth : ∀ (f : Fx) (i : Nat), i < f.len → ∃ (f1 : Fx) (p : Pre) (k : Int) (s : List UInt8) (n op : Int) (ns : List (List UInt8)) (a b c r : Fx), f = f1.app (.cons p k s n op ns a b c r) ∧ f1.len = i
  | .nil, i, h => by simp [Fx.len] at h
  | .cons p k s n op ns a b c r, 0, _ => ⟨.nil, p, k, s, n, op, ns, a, b, c, r, rfl, rfl⟩
  | .cons p k s n op ns a b c r, i + 1, h => by
    obtain ⟨f1, p', k', s', n', op', ns', a', b', c', r', e, hl⟩ := fx_nth r i (by simp only [Fx.len] at h; omega)
    exact ⟨.cons p k s n op ns a b c f1, p', k', s', n', op', ns', a', b', c', r', by rw [e]; rfl, by simp only [Fx.len, hl]⟩
/-- A bind at its place. -/
theorem bind_at {ok : Nat → Prop} {w : World} {ao : Option Addr} {cp : Nat} {f : Fx} (hv : FxV ok w 1 (.slice ao f.len cp) f) {i : Nat} (hi : i < f.len) :
    ∃ (bb o : Nat) (s' : List UInt8) (k : Int) (s : List UInt8) (n op : Int) (vn va vb vc : Value) (ns : List (List UInt8)) (a b c f1 r : Fx), ao = some ⟨bb, o, none⟩ ∧ ok bb ∧ f.len ≤ cp ∧ cp ≤ maxLen ∧ f = f1.app (.cons (.bind s') k s n op ns a b c r) ∧ f1.len = i ∧
      w.cell? ⟨bb, o + i * 9, none⟩ = some (.string (bt s')) ∧ w.cell? ⟨bb, o + i * 9 + 1, none⟩ = some (.int .i64 k) ∧ w.cell? ⟨bb, o + i * 9 + 2, none⟩ = some (.string (bt s)) ∧ w.cell? ⟨bb, o + i * 9 + 3, none⟩ = some (.int .i64 n) ∧
      w.cell? ⟨bb, o + i * 9 + 4, none⟩ = some (.int .i64 op) ∧ w.cell? ⟨bb, o + i * 9 + 5, none⟩ = some vn ∧ w.cell? ⟨bb, o + i * 9 + 6, none⟩ = some va ∧ w.cell? ⟨bb, o + i * 9 + 7, none⟩ = some vb ∧ w.cell? ⟨bb, o + i * 9 + 8, none⟩ = some vc ∧ ExV ok w vn va vb vc ns a b c := by
  obtain ⟨f1, p, k, s, n, op, ns, a, b, c, r, e, rfl⟩ := fx_nth f i hi
  obtain ⟨bb, o, vn, va, vb, vc, hao, hok, hl, hm, _, hpre, c0, c1, c2, c3, c4, c5, c6, c7, hx⟩ := fx_at hv e
  cases p with
  | no => exact absurd hpre (by simp [PreAt])
  | alt _ _ _ _ => exact absurd hpre.1 (by decide)
  | bind s' => exact ⟨bb, o, s', k, s, n, op, vn, va, vb, vc, ns, a, b, c, f1, r, hao, hok, hl, hm, e, rfl, hpre.2, c0, c1, c2, c3, c4, c5, c6, c7, hx⟩

/-- What the iterator hands on. -/
structure Bd where
  (i : Nat) (v : Value)
def Bd.enc (x : Bd) : Array Value := #[.int .i64 (x.i : Nat), x.v]

set_option maxHeartbeats 2000000 in
set_option maxRecDepth 100000 in
theorem back_any (bx M : Nat) (ao : Option Addr) (cap : Nat) (b : Fx) (W0 : World) (hv : FxV (Old M) W0 1 (.slice ao b.len cap) b) (hlen : b.len ≤ 1048576) (J : Nat → World → Prop) (K : World → Prop) (l : Nat) (W : World)
    (hJc : ∀ t W, J t W → W.cell? ⟨bx, 0, none⟩ = some (.slice ao b.len cap) ∧ Keep (Old M) (Old M) W0 W) (h0 : J 0 W) (hK0 : K W)
    (hY : ∀ t (x : Bd) W, J t W → K W → x.i + t + 1 = b.len → YieldAt Fence.wide 2 Try.prog l x.enc W fun e W' => e = .returned (.bool true) ∧ ∃ t', t' = t + 1 ∧ J t' W' ∧ K W') :
    CallsIn Fence.wide 3 Try.prog 20 #[.func (.yield l) #[] #[], .pointer (some ⟨bx, 0, none⟩)] W fun e W' => (∃ v, e = .returned v) ∧ ∃ t, t = b.len ∧ J t W' ∧ K W' := by
  have k1 := (hJc _ _ h0).1
  have hwl : IntKind.i64.wrap ((b.len : Int) - 1) = (b.len : Int) - 1 := by rw [IntKind.wrap_i64]; omega
  refine callsIn_of_wp Try.func20 rfl trivial ?_ rfl
  simp only [Try.ntmps20, List.size_toArray, List.length_cons, List.length_nil, Nat.reduceAdd, Nat.reduceSub, Array.replicate_succ, Array.replicate_zero, List.push_toArray, List.append_toArray, List.nil_append, List.cons_append]
  gi_wp2_with fail
  gi_loopw [3] (fun i wr => ∃ t : Nat, t ≤ b.len ∧ i = .int .i64 ((b.len : Int) - 1 - t) ∧ J t wr ∧ K wr) (fun i _ => (intOf i + 1).toNat)
  case atStart => exact ⟨0, Nat.zero_le _, by simp, h0, hK0⟩
  case round =>
    clear h0 hK0 k1
    obtain ⟨t, ht, rfl, hj, hk⟩ := hrel
    obtain ⟨k1, hkp⟩ := hJc _ _ hj
    by_cases hlt : t < b.len
    · obtain ⟨i, hi⟩ : ∃ i : Nat, i + t + 1 = b.len := ⟨b.len - t - 1, by omega⟩
      have hii : ((b.len : Int) - 1 - t) = (i : Nat) := by omega
      rw [hii]
      obtain ⟨bb, o, s', k, s, n, op, vn, va, vb, vc, ns, a, b', c, f1, r, rfl, hok, hl, hm, hbe, hfl, c0, c1, c2, c3, c4, c5, c6, c7, c8, hxx⟩ := bind_at (hv.keep hkp) (i := i) (by omega)
      clear hbe hfl hxx
      unfold maxLen at hm
      have hil : (i : Int) < b.len := by omega
      have hwi : IntKind.i64.wrap ((i : Int) - 1) = (i : Int) - 1 := by rw [IntKind.wrap_i64]; omega
      obtain ⟨fn, tmps, assign, body, hy, hR⟩ := hY t ⟨i, .agg #[.string (bt s'), .int .i64 k, .string (bt s), .int .i64 n, .int .i64 op, vn, va, vb, vc]⟩ wr hj hk hi
      replace hy : (Instr.yield l #[.int .i64 (i : Nat), .agg #[.string (bt s'), .int .i64 k, .string (bt s), .int .i64 n, .int .i64 op, vn, va, vb, vc]]).run Try.prog wr = .ok (.round l fn tmps assign body) wr := hy
      clear hj hk hkp hii
      gi_wp2_with fail
      refine hR.mono ?_
      rintro e W3 ⟨rfl, n', rfl, hj3, hk3⟩
      have HJ3 := Lib.hid hj3
      have HK3 := Lib.hid hk3
      clear hj3 hk3 hR hy
      gi_wp2_with fail
      go_roundw
      case rel => exact ⟨t + 1, hlt, by simp; omega, HJ3.out, HK3.out⟩
      case measure => simp [intOf]
    · obtain rfl : t = b.len := by omega
      have HJ3 := Lib.hid hj
      have HK3 := Lib.hid hk
      have hng : ((b.len : Int) - 1 - b.len) = -1 := by omega
      rw [hng]
      clear hj hk hkp
      gi_wp2_with fail
      go_end0
      exact ⟨⟨_, rfl⟩, _, rfl, HJ3.out, HK3.out⟩
end
end

section
open Go.RowKit Ex0 Go.Maps Go.Sort Go.Shelf
attribute [local go_sem] bt_size bt_list bt_toList

/-- Binds as names, each with which names are free in its expression. -/
def bl : Fx → List (List UInt8 × (List UInt8 → Bool))
  | .nil => []
  | .cons p k s _ _ ns a b c r => ((match p with | .bind s' => s' | _ => []), fun x => fvE x k s ns a b c) :: bl r
theorem bl_len (f : Fx) : (bl f).length = f.len := by
  induction f with
  | nil => rfl
  | cons p k s n op ns a b c r _ _ _ ih => simp only [bl, List.length_cons, Fx.len, ih]
theorem bl_app (f g : Fx) : bl (f.app g) = bl f ++ bl g := by
  induction f with
  | nil => rfl
  | cons p k s n op ns a b c r _ _ _ ih => simp only [Fx.app, bl, ih, List.cons_append]
theorem bl_at (f1 r : Fx) (s' : List UInt8) (k : Int) (s : List UInt8) (n op : Int) (ns : List (List UInt8)) (a b c : Fx) : (bl (f1.app (.cons (.bind s') k s n op ns a b c r)))[f1.len]? = some (s', fun x => fvE x k s ns a b c) := by
  rw [bl_app, List.getElem?_append_right (by rw [bl_len]; exact Nat.le_refl _), bl_len, Nat.sub_self]
  rfl
/-- The place of the first one of a name. -/
def plFrom : List (List UInt8 × (List UInt8 → Bool)) → Nat → List UInt8 → Option Nat
  | [], _, _ => none
  | p :: r, off, x => if x = p.1 then some off else plFrom r (off + 1) x
theorem plFrom_lt : ∀ (l : List (List UInt8 × (List UInt8 → Bool))) (off : Nat) (x : List UInt8) (i : Nat), plFrom l off x = some i → off ≤ i ∧ i < off + l.length
  | [], _, _, _, h => by cases h
  | p :: r, off, x, i, h => by
    simp only [plFrom] at h
    split at h
    · cases h
      simp
    · have := plFrom_lt r (off + 1) x i h
      simp only [List.length_cons]
      omega
theorem plFrom_get : ∀ (l : List (List UInt8 × (List UInt8 → Bool))) (off : Nat) (x : List UInt8) (i : Nat), plFrom l off x = some i → ∃ p, l[i - off]? = some p ∧ p.1 = x
  | [], _, _, _, h => by cases h
  | p :: r, off, x, i, h => by
    simp only [plFrom] at h
    split at h
    · rename_i hx
      cases h
      exact ⟨p, by simp, hx.symm⟩
    · have h1 := plFrom_lt r (off + 1) x i h
      obtain ⟨q, hq, hx⟩ := plFrom_get r (off + 1) x i h
      refine ⟨q, ?_, hx⟩
      rw [show i - off = (i - (off + 1)) + 1 by omega, List.getElem?_cons_succ]
      exact hq
/-- Which binds are reached. -/
inductive Rch (l : List (List UInt8 × (List UInt8 → Bool))) (F : List UInt8 → Bool) : Nat → Prop where
  | root {x : List UInt8} {i : Nat} (h : F x = true) (hp : plFrom l 0 x = some i) : Rch l F i
  | step {j : Nat} {p : List UInt8 × (List UInt8 → Bool)} {x : List UInt8} {i : Nat} (hj : Rch l F j) (hl : l[j]? = some p) (h : p.2 x = true) (hp : plFrom l 0 x = some i) : Rch l F i

/-- An expression that is not too great. -/
structure OkE (s : List UInt8) (ns : List (List UInt8)) (a b c : Fx) : Prop where
  nm : nmE s ns a b c = true
  ce : costE ns a b c ≤ 1048576
  cnt : (parts a b c).count + 1 ≤ 131072
  by_ : ownBytes ns b c + bytesF (parts a b c) ≤ 2147483647
/-- Binds whose names are short and whose expressions are not too great. -/
def OkB (f : Fx) : Prop := ∀ (f1 : Fx) (s' : List UInt8) (k : Int) (s : List UInt8) (n op : Int) (ns : List (List UInt8)) (a b c r : Fx), f = f1.app (.cons (.bind s') k s n op ns a b c r) → s'.length ≤ maxLen ∧ OkE s ns a b c

/-- The range's state: the last t names have their places. -/
def FillS (W1 : World) (mB : Nat) (f : Fx) (t : Nat) (W : World) : Prop := W1.grownBy W (some mB) ∧ PlaceAt W mB t (plFrom ((bl f).drop (f.len - t)) (f.len - t))
theorem FillS.own {W1 : World} {mB : Nat} {f : Fx} (hm : mB < W1.heap.size) : OwnFrom W1.heap.size (FillS W1 mB f) := by
  rintro n A B row ⟨h1, h2⟩ hg hr
  exact ⟨⟨hg.os.trans h1.os, hg.tape.trans h1.tape, hg.output.trans h1.output, Nat.le_trans h1.size hg.size, fun i hi hne => (hg.block i (Nat.lt_of_lt_of_le hi h1.size) (fun e => by have := (hr i e.symm).1; omega)).trans (h1.block i hi hne)⟩, h2.kept hg (fun e => by have := (hr mB e.symm).1; omega)⟩
theorem FillS.put {W1 W : World} {mB t i : Nat} {f f1 r : Fx} {s : List UInt8} {k : Int} {s0 : List UInt8} {n op : Int} {ns : List (List UInt8)} {a b c : Fx} (h : FillS W1 mB f t W) (hit : i + t + 1 = f.len) (hf : f = f1.app (.cons (.bind s) k s0 n op ns a b c r)) (hl : f1.len = i) (hs : s.length ≤ maxLen) (hn : f.len ≤ 1048576) :
    ∃ W', (Instr.mapUpdate 44 (.map (some mB)) (.string (bt s)) (.int .i64 (i : Nat))).run Try.prog W = .ok () W' ∧ FillS W1 mB f (t + 1) W' ∧ W.grownBy W' (some mB) := by
  obtain ⟨W', h1, h2, h3⟩ := h.2.put s hs i (by omega) (by unfold maxLen; omega)
  refine ⟨W', h1, ⟨h.1.trans h3, ?_⟩, h3⟩
  have e1 : f.len - t = i + 1 := by omega
  have e2 : f.len - (t + 1) = i := by omega
  have hg : (bl f)[i]? = some (s, fun x => fvE x k s0 ns a b c) := by
    rw [← hl, hf]
    exact bl_at f1 r s k s0 n op ns a b c
  have hd : (bl f).drop i = (s, fun x => fvE x k s0 ns a b c) :: (bl f).drop (i + 1) := by
    obtain ⟨hlt, he⟩ := List.getElem?_eq_some_iff.1 hg
    rw [List.drop_eq_getElem_cons hlt, he]
  rw [e1] at h2
  rw [e2, hd]
  exact h2

/-- The blocks that are there where the range begins. -/
structure LsS (w W1 : World) (sv : Value) (k : Int) (s : List UInt8) (n op : Int) (vn va vb vc : Value) : Prop where
  size : W1.heap.size = w.heap.size + 1 + 1 + 1 + 1 + 1
  ex : W1.heap[w.heap.size]? = some (exBox k s n op vn va vb vc)
  box : W1.heap[w.heap.size + 1]? = some (.cells #[sv] 24 (0, 0))
  map : W1.heap[w.heap.size + 1 + 1]? = some (.map #[] 0)
  cAt : W1.heap[w.heap.size + 1 + 1 + 1]? = some (.cells #[.map (some (w.heap.size + 1 + 1))] 44 (0, 0))
  bx : W1.heap[w.heap.size + 1 + 1 + 1 + 1]? = some (.cells #[sv] 24 (0, 0))
  bel : Below w.heap.size w W1
theorem hp_at' {W : World} {o : Obj} {b : Nat} (h : W.heap[b]? = some o) (z : Obj) : (W.alloc z).heap[b]? = some o := (Below.heap_alloc W z b (Array.getElem?_eq_some_iff.1 h).1).trans h
theorem hp_nw' (W : World) (z : Obj) {b : Nat} (hb : W.heap.size = b) : (W.alloc z).heap[b]? = some z := hb ▸ World.alloc_heap_new W z
theorem lss_start {w W1 : World} {sv : Value} {k : Int} {s : List UInt8} {n op : Int} {vn va vb vc : Value} (hW1 : W1 = ((((w.alloc (exBox k s n op vn va vb vc)).alloc (.cells #[sv] 24)).alloc (.map #[] 0)).alloc (.cells #[.map (some (w.heap.size + 1 + 1))] 44)).alloc (.cells #[sv] 24)) : LsS w W1 sv k s n op vn va vb vc := by
  subst hW1
  exact ⟨by simp, hp_at' (hp_at' (hp_at' (hp_at' (hp_nw' _ _ rfl) _) _) _) _, hp_at' (hp_at' (hp_at' (hp_nw' _ _ (by simp)) _) _) _, hp_at' (hp_at' (hp_nw' _ _ (by simp)) _) _, hp_at' (hp_nw' _ _ (by simp)) _, hp_nw' _ _ (by simp),
    ((((below_alloc' _ _).alloc (by simp) _).alloc (by simp <;> omega) _).alloc (by simp <;> omega) _).alloc (by simp <;> omega) _⟩

theorem info_bool1' : (Try.prog.info? 4).map (fun i => (i.zero, i.size, i.bytes)) = some (some (.bool false), 1, 1) := by kernel_rfl
theorem make_bools (W : World) (n : Nat) (hn : n ≤ 1048576) : (Instr.makeSlice 48 (.int .i64 (n : Nat)) (.int .i64 (n : Nat))).run Try.prog W = .ok (.slice (some ⟨W.heap.size, 0, none⟩) n n) (W.alloc (.cells ((List.replicate n false).map Value.bool).toArray 4)) := by
  obtain ⟨i0, hi, hz0, hz1, hz2⟩ := info_of info_bool1'
  have h := run_make (P := Try.prog) W 48 4 i0 _ (by kernel_rfl) hi hz0 .i64 .i64 (n : Nat) (n : Nat) (by omega) (by omega) (by rw [hz2]; omega) (by omega)
  rw [hz1] at h
  have e : madeCells (Value.bool false).cells (Int.toNat (n : Nat) * 1) = ((List.replicate n false).map Value.bool).toArray := by
    unfold madeCells
    apply Array.ext
    · simp
    · intro i h1 h2
      simp [Value.cells, Nat.mod_one]
  rw [e] at h
  simpa using h
end
end Go.Proofs.Ytkdpojmbahjdjaa
