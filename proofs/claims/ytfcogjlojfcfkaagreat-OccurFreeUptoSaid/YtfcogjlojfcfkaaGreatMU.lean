/- The closure of occur.Live, where the chapter's three binds are looked at. No condition but a bound on a name. -/
import Derived.Test.YtfcogjlojfcfkaaGreatMT
import Derived.Test.YtfcogjlojfcfkaaGreatMC
import Derived.Maps.AppendAt
import Derived.Maps.OwnSet
namespace Go.Proofs.YtfcogjlojfcfkaaGreat
open Go.RowKit Ex0 Go.Maps Go.Sort Go.Shelf
attribute [local go_sem] bt_size bt_list bt_toList

/-- The three names, with their places. -/
def liveD : DataW Unit := (((DataW.map []).put (.string [99]) (.lit (.int .i64 2))).put (.string [98]) (.lit (.int .i64 1))).put (.string [97]) (.lit (.int .i64 0))

/-- What the closure goes by: the places of the names; which are needed; the list of those. -/
structure LvAt (B : Nat) (W : World) (atB mB neB nB lvB : Nat) (n0 n1 : Bool) (lv : Value) (xs : List Int) : Prop where
  cAt : W.heap[atB]? = some (.cells #[.map (some mB)] 63 (0, 0))
  cMap : W.ownsMap Tryz.prog 9 (plainElem (H := Unit) Tryz.prog 3) mB 3 liveD
  cNe : W.heap[neB]? = some (.cells #[.slice (some ⟨nB, 0, none⟩) 3 3] 67 (0, 0))
  cNd : W.heap[nB]? = some (.cells #[.bool n0, .bool n1, .bool false] 4 (0, 0))
  cLv : W.heap[lvB]? = some (.cells #[lv] 42 (0, 0))
  row : W.ownsRow B 3 1 lv xs.length (xs.map (Value.int .i64))
  lo : atB < B ∧ neB < B ∧ nB < B ∧ lvB < B ∧ mB < B
  bB : B ≤ W.heap.size
  dis : neB ≠ nB ∧ neB ≠ lvB ∧ atB ≠ nB ∧ atB ≠ lvB ∧ mB ≠ nB ∧ mB ≠ lvB ∧ nB ≠ lvB

theorem below_grow {W W' : World} (hb : Below W.heap.size W W') : W.grownBy W' none := ⟨hb.os, hb.tape, hb.output, hb.size, fun k hk _ => hb.block k hk⟩
theorem LvAt.below {B : Nat} {W W' : World} {atB mB neB nB lvB : Nat} {n0 n1 : Bool} {lv : Value} {xs : List Int} (h : LvAt B W atB mB neB nB lvB n0 n1 lv xs) (hb : Below W.heap.size W W') : LvAt B W' atB mB neB nB lvB n0 n1 lv xs := by
  obtain ⟨h1, h2, h3, h4, h5, h6, h7, h8, h9⟩ := h
  have q := fun b (hl : b < B) => hb.block b (Nat.lt_of_lt_of_le hl h8)
  exact ⟨(q _ h7.1).trans h1, h2.kept (below_grow hb) (by simp), (q _ h7.2.1).trans h3, (q _ h7.2.2.1).trans h4, (q _ h7.2.2.2.1).trans h5, h6.kept (below_grow hb) (by cases hh : lv.ownBlock with | none => exact .inl rfl | some g => exact .inr (by simp)), h7, Nat.le_trans h8 hb.size, h9⟩

theorem lv_look {W : World} {mB : Nat} (h : W.ownsMap Tryz.prog 9 (plainElem (H := Unit) Tryz.prog 3) mB 3 liveD) (s : List UInt8) (i : Int) (hsl : s.length ≤ maxLen) (hs : liveD.atKey (.string s) (.lit (.int .i64 0)) = .lit (.int .i64 i)) (hh : Maps.has liveD (.string s) = true) :
    (Instr.lookup 63 (.map (some mB)) (.string (bt s)) true).run Tryz.prog W = .ok (.tuple #[.int .i64 i, .bool true]) W := by
  have hi : Tryz.prog.underlying 3 = some (.int .i64) := by kernel_rfl
  obtain ⟨v, ps, hrun, hv⟩ := h.look_ok (string_keyed (by kernel_rfl)) (t := 63) (e := 3) (by kernel_rfl) (Tryz.zeroValue3 W) (plainElem_int hi (by decide)) (key := .string (bt s)) (kl := .string s) (by have := WideMaps.keyOf_string_mk (P := Tryz.prog) (k := 9) (s := bt s) (by kernel_rfl) (by rw [bt_size]; exact hsl); exact this)
  obtain ⟨c, rfl, hc, _⟩ := plainElem_int_inv hi hv
  simp only [Prod.mk.injEq] at hc
  rw [hs] at hc
  have : i = c := congrArg (fun d : DataW Unit => match d with | .lit (.int _ n) => n | _ => 0) hc.1
  rw [hrun, hh, this]

set_option maxHeartbeats 1000000 in
theorem live_none (k : Int) (s : List UInt8) (nn op : Int) (an aa ab ac : Option Addr) (cn ca cb cc : Nat) (p1 p2 p3 : Option Addr) (W : World) (hk : (k == 6) = false) (hk1 : (k == 1) = false) (hsl : s.length ≤ maxLen) :
    Calls Tryz.prog 24 #[exV k s nn op (.slice an 0 cn) (.slice aa 0 ca) (.slice ab 0 cb) (.slice ac 0 cc), .pointer p1, .pointer p2, .pointer p3] W fun e w' => (∃ v, e = .returned v) ∧ Below W.heap.size W w' := by
  unfold exV
  go_enter Tryz.func24, Tryz.ntmps24
  go_wp2_with fail
  go_at_call 8
  refine (free_c k s nn op an aa ab ac cn ca cb cc _ hk hsl).mono ?_
  rintro e w2 ⟨v2, rfl, hv, hb2⟩
  have hl : lfList k s = [] := by unfold lfList; rw [hk1]; rfl
  rw [hl] at hv
  obtain ⟨a2, c2, rfl⟩ := hv.slice
  have HB2 := Lib.hid ((below_alloc' W (exBox k s nn op (.slice an 0 cn) (.slice aa 0 ca) (.slice ab 0 cb) (.slice ac 0 cc))).trans (hb2.mono (by simp)))
  clear hv hb2 hl
  go_wp2_with fail
  go_loopw [12] (fun i wr => i = .int .i64 0 ∧ wr = w2) (fun _ _ => 0)
  case atStart => exact ⟨rfl, rfl⟩
  case round =>
    obtain ⟨rfl, rfl⟩ := hrel
    go_wp2_with fail
    go_end0
    exact ⟨⟨_, rfl⟩, HB2.out⟩

theorem info_int1 : (Tryz.prog.info? 3).map (fun i => (i.zero, i.size, i.bytes)) = some (some (.int .i64 0), 1, 8) := by kernel_rfl
theorem cell_of {W : World} {b : Nat} {cs : Array Value} {T : TypeId} {fr : Nat × Nat} (h : W.heap[b]? = some (.cells cs T fr)) (o : Nat) (v : Value) (hv : cs[o]? = some v) : W.cell? ⟨b, o, none⟩ = some v := by
  simp only [World.cell?, h]
  exact hv
theorem frozen_of {W : World} {b : Nat} {cs : Array Value} {T : TypeId} (h : W.heap[b]? = some (.cells cs T (0, 0))) (o : Nat) : W.frozen? ⟨b, o, none⟩ = false := by
  simp [World.frozen?, h]
theorem LvAt.set {B : Nat} {W : World} {atB mB neB nB lvB : Nat} {n0 n1 : Bool} {lv : Value} {xs : List Int} (h : LvAt B W atB mB neB nB lvB n0 n1 lv xs) (j : Nat) (hj : j = 0 ∨ j = 1) :
    LvAt B (W.setCell ⟨nB, j, none⟩ (.bool true)) atB mB neB nB lvB (n0 || decide (j = 0)) (n1 || decide (j = 1)) lv xs := by
  obtain ⟨h1, h2, h3, h4, h5, h6, h7, h8, d1, d2, d3, d4, d5, d6, d7⟩ := h
  have hb : Below 0 W (W.setCell ⟨nB, j, none⟩ (.bool true)) := (Below.refl _ _).setCell (Nat.zero_le _) _
  have q := fun b (hl : b ≠ nB) => Below.heap_setCell W ⟨nB, j, none⟩ (.bool true) b hl
  have hg : W.grownBy (W.setCell ⟨nB, j, none⟩ (.bool true)) (some nB) := ⟨hb.os, hb.tape, hb.output, hb.size, fun k _ hk => q k (fun e => hk (by rw [e]))⟩
  refine ⟨(q _ d3).trans h1, h2.kept hg (by simp [d5]), (q _ d1).trans h3, ?_, (q _ (Ne.symm d7)).trans h5, h6.kept hg ?_, h7, Nat.le_trans h8 hb.size, d1, d2, d3, d4, d5, d6, d7⟩
  · have := heap_set (o := j) h4 (.bool true)
    rcases hj with rfl | rfl <;> simpa using this
  · cases hh : lv.ownBlock with
    | none => exact .inl rfl
    | some g =>
      refine .inr ?_
      have := h6.lt g hh
      simp
      omega

theorem own_form {w : World} {B : Nat} {E : TypeId} {v : Value} {n : Nat} {xs : List Value} (h : w.ownsRow B E 1 v (n + 1) xs) : ∃ g c, v = .slice (some ⟨g, 0, none⟩) (n + 1) c := by
  rcases h.2 with ⟨_, h⟩ | ⟨g, c, _, h, _⟩
  · omega
  · exact ⟨g, c, h⟩
theorem LvAt.held {B : Nat} {W w6 : World} {atB mB neB nB lvB : Nat} {n0 n1 : Bool} {lv : Value} {xs : List Int} (h : LvAt B W atB mB neB nB lvB n0 n1 lv xs) {o : Obj} (hg : (W.alloc o).grownBy w6 lv.ownBlock) :
    w6.heap[lvB]? = some (.cells #[lv] 42 (0, 0)) := by
  obtain ⟨h1, h2, h3, h4, h5, h6, h7, h8, h9⟩ := h
  refine (hg.block lvB (by simp; omega) (fun e => ?_)).trans ((Below.heap_alloc _ _ _ (by omega)).trans h5)
  have := h6.lt lvB e.symm
  omega
theorem LvAt.push {B : Nat} {W w6 : World} {atB mB neB nB lvB : Nat} {n0 n1 : Bool} {lv lv' : Value} {xs : List Int} {i : Int} (h : LvAt B W atB mB neB nB lvB n0 n1 lv xs) {o : Obj} (hg : (W.alloc o).grownBy w6 lv.ownBlock)
    (hown : w6.ownsRow B 3 1 lv' (xs.length + 1) (xs.map (Value.int .i64) ++ [.int .i64 i])) : LvAt B (w6.setCell ⟨lvB, 0, none⟩ lv') atB mB neB nB lvB n0 n1 lv' (xs ++ [i]) := by
  have hc := h.held hg
  obtain ⟨h1, h2, h3, h4, h5, h6, h7, h8, d1, d2, d3, d4, d5, d6, d7⟩ := h
  have hne : ∀ b, b < B → some b ≠ lv.ownBlock := fun b hb e => by
    have := h6.lt b e.symm
    omega
  have q := fun b (hb : b < B) (hl : b ≠ lvB) => (Below.heap_setCell w6 ⟨lvB, 0, none⟩ lv' b hl).trans ((hg.block b (by simp; omega) (hne b hb)).trans (Below.heap_alloc W o b (by omega)))
  have hb : Below 0 w6 (w6.setCell ⟨lvB, 0, none⟩ lv') := (Below.refl _ _).setCell (Nat.zero_le _) _
  have hs : w6.grownBy (w6.setCell ⟨lvB, 0, none⟩ lv') (some lvB) := ⟨hb.os, hb.tape, hb.output, hb.size, fun k _ hk => Below.heap_setCell _ _ _ _ (fun e => hk (by rw [e]))⟩
  refine ⟨(q _ h7.1 d4).trans h1, ((h2.alloc o).kept hg (hne _ h7.2.2.2.2)).kept hs (by simp [d6]), (q _ h7.2.1 d2).trans h3, (q _ h7.2.2.1 d7).trans h4, heap_set hc lv', ?_, h7, ?_, d1, d2, d3, d4, d5, d6, d7⟩
  · have e : (xs ++ [i]).length = xs.length + 1 := by simp
    rw [e, List.map_append]
    refine World.ownsRow.kept hown hs ?_
    cases hh : lv'.ownBlock with
    | none => exact .inl rfl
    | some g =>
      refine .inr ?_
      have := hown.lt g hh
      simp
      omega
  · have := hg.size
    have := hb.size
    simp at *
    omega

set_option maxHeartbeats 2000000 in
set_option maxRecDepth 100000 in
theorem live_new (B M : Nat) (W : World) (atB mB neB nB lvB : Nat) (n0 n1 : Bool) (lv : Value) (xs : List Int) (hL : LvAt B W atB mB neB nB lvB n0 n1 lv xs) (hM : M ≤ nB ∧ M ≤ lvB ∧ M ≤ B) (hxs : xs.length ≤ 2)
    (s : List UInt8) (hsl : s.length ≤ maxLen) (j : Nat) (hj : (j = 0 ∧ n0 = false) ∨ (j = 1 ∧ n1 = false)) (hs : liveD.atKey (.string s) (.lit (.int .i64 0)) = .lit (.int .i64 j)) (hh : Maps.has liveD (.string s) = true)
    (nn op : Int) (an aa ab ac : Option Addr) (cn ca cb cc : Nat) :
    Calls Tryz.prog 24 #[exV 1 s nn op (.slice an 0 cn) (.slice aa 0 ca) (.slice ab 0 cb) (.slice ac 0 cc), .pointer (some ⟨atB, 0, none⟩), .pointer (some ⟨neB, 0, none⟩), .pointer (some ⟨lvB, 0, none⟩)] W fun e w' =>
      (∃ v, e = .returned v) ∧ Below M W w' ∧ ∃ lv', LvAt B w' atB mB neB nB lvB (n0 || decide (j = 0)) (n1 || decide (j = 1)) lv' (xs ++ [(j : Int)]) := by
  unfold exV
  obtain ⟨i0, hi, hz0, hz1, hz2⟩ := info_of info_int1
  have hui : Tryz.prog.underlying 42 = some (.slice 3) := by kernel_rfl
  have HI := Lib.hid (And.intro hi (And.intro hz0 (And.intro hz1 hz2)))
  have HL0 := Lib.hid hL
  clear hL hi hz0 hz1 hz2
  go_enter Tryz.func24, Tryz.ntmps24
  go_wp2_with fail
  go_at_call 8
  refine (free_c 1 s nn op an aa ab ac cn ca cb cc _ rfl hsl).mono ?_
  rintro e w2 ⟨v2, rfl, hv, hb2⟩
  have hb2' := (below_alloc' W (exBox 1 s nn op (.slice an 0 cn) (.slice aa 0 ca) (.slice ab 0 cb) (.slice ac 0 cc))).trans (hb2.mono (by simp))
  have HB2 := Lib.hid hb2'
  have HL2 := Lib.hid (HL0.out.below hb2')
  have hl : lfList 1 s = [s] := rfl
  rw [hl] at hv
  rcases hv with ⟨hx, _⟩ | ⟨_, g, o, c, rfl, _, hlc, hcm, ha⟩
  · exact absurd hx (by simp)
  have g0 : w2.cell? ⟨g, o, none⟩ = some (.string (bt s)) := ha 0 (by simp)
  clear hb2 hb2' hl ha
  simp only [List.length_cons, List.length_nil, Nat.zero_add] at hlc ⊢
  go_wp2_with fail
  go_loopw [12] (fun i wr => (i = .int .i64 0 ∧ wr = w2) ∨ (i = .int .i64 1 ∧ Below M W wr ∧ ∃ lv', LvAt B wr atB mB neB nB lvB (n0 || decide (j = 0)) (n1 || decide (j = 1)) lv' (xs ++ [(j : Int)]))) (fun i _ => 1 - (intOf i).toNat)
  case atStart => exact .inl ⟨rfl, rfl⟩
  case round =>
    rcases hrel with ⟨rfl, rfl⟩ | ⟨rfl, hbM, hres⟩
    · have hlk := lv_look HL2.out.cMap s j hsl hs hh
      have k1 := cell_of HL2.out.cAt 0 _ rfl
      have k2 := cell_of HL2.out.cNe 0 _ rfl
      have k3 : wr.cell? ⟨nB, j, none⟩ = some (.bool false) := by
        rcases hj with ⟨rfl, rfl⟩ | ⟨rfl, rfl⟩
        · exact cell_of HL2.out.cNd 0 _ rfl
        · exact cell_of HL2.out.cNd 1 _ rfl
      have k4 := cell_of HL2.out.cLv 0 _ rfl
      have k5 := frozen_of HL2.out.cNd j
      have hj3 : j < 3 := by omega
      have HL3 := Lib.hid (HL2.out.set j (by omega))
      have k7 := cell_of HL3.out.cLv 0 _ rfl
      have hnew : ∀ q u, [Value.int .i64 (j : Int)][q]? = some u → ((wr.setCell ⟨nB, j, none⟩ (.bool true)).alloc (.cells #[.int .i64 j] 3)).cell? ((⟨wr.heap.size, 0, none⟩ : Addr).add q) = some u := by
        have := cell_one_new (wr.setCell ⟨nB, j, none⟩ (.bool true)) (.int .i64 j) 3
        have e : (wr.setCell ⟨nB, j, none⟩ (.bool true)).heap.size = wr.heap.size := by simp [World.setCell]
        rwa [e] at this
      have HN := Lib.hid hnew
      clear hnew
      go_wp2_with (at_builtin; refine wpList_append_own_at _ rfl _ _ 42 rfl B 3 i0 (.int .i64 0) 1 8 hui HI.out.1 HI.out.2.1 HI.out.2.2.1 HI.out.2.2.2 rfl (by decide) lv xs.length _ rfl (HL3.out.row.alloc _) ⟨wr.heap.size, 0, none⟩ 1 1 [.int .i64 j] rfl rfl HN.out (by simp [Value.oneCell']) (by simp [maxLen]; omega) (by omega) (by have := HL3.out.bB; simp; simp at this; omega) ?_; intro lv6 w6 hown6 hgrow _ _; obtain ⟨g6, c6, rfl⟩ := own_form hown6; have z1 := cell_of (HL3.out.held hgrow) 0 _ rfl; have z2 := frozen_of (HL3.out.held hgrow) 0; have HL6 := Lib.hid (HL3.out.push hgrow hown6); have HG6 := Lib.hid hgrow; clear hgrow hown6)
      go_wp2
      have hsz : M ≤ wr.heap.size := by have := HL2.out.bB; omega
      have hbl := ((((HB2.out.mono (by have := HL0.out.bB; omega)).setCell (p := ⟨nB, j, none⟩) hM.1 (.bool true)).alloc (by simp [World.setCell]; omega) (.cells #[.int .i64 j] 3)).grown HG6.out (by simp [World.setCell]; omega) (fun q hq => by have := (HL3.out.row.lt q hq).1; omega)).setCell (p := ⟨lvB, 0, none⟩) hM.2.1 (.slice (some ⟨g6, 0, none⟩) (xs.length + 1) c6)
      go_roundw
      case rel => exact .inr ⟨rfl, hbl, _, HL6.out⟩
      case measure => simp [intOf]
    · go_wp2_with fail
      go_end0
      exact ⟨⟨_, rfl⟩, hbM, hres⟩
end Go.Proofs.YtfcogjlojfcfkaaGreat
