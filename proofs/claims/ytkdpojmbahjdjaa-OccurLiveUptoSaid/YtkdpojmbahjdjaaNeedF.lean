/- The closure of occur.Live at any expression and binds. Bounds on names and on how great they are. -/
import Derived.Test.YtkdpojmbahjdjaaFreeAny
import Derived.Test.YtkdpojmbahjdjaaLeafF
namespace Go.Proofs.Ytkdpojmbahjdjaa
section
open Go.RowKit Ex0 Go.Maps Go.Sort Go.Shelf
attribute [local go_sem] bt_size bt_list bt_toList

/-- The places of names, in a map. -/
def PlaceAt (W : World) (mB N : Nat) (pl : List UInt8 → Option Nat) : Prop := ∃ D : DataW Unit, W.ownsMap Try.prog 9 (plainElem (H := Unit) Try.prog 3) mB N D ∧ IsMap D ∧ ∀ x, Maps.has D (.string x) = (pl x).isSome ∧ ∀ i, pl x = some i → D.atKey (.string x) (.lit (.int .i64 0)) = .lit (.int .i64 (i : Nat))
theorem PlaceAt.kept {W W' : World} {mB N : Nat} {pl : List UInt8 → Option Nat} {row : Option Nat} (h : PlaceAt W mB N pl) (hg : W.grownBy W' row) (hne : some mB ≠ row) : PlaceAt W' mB N pl :=
  let ⟨D, ho, hm, hc⟩ := h; ⟨D, ho.kept hg hne, hm, hc⟩
theorem PlaceAt.look {W : World} {mB N : Nat} {pl : List UInt8 → Option Nat} (h : PlaceAt W mB N pl) (s : List UInt8) (hs : s.length ≤ maxLen) :
    ∃ c : Int, (Instr.lookup 44 (.map (some mB)) (.string (bt s)) true).run Try.prog W = .ok (.tuple #[.int .i64 c, .bool (pl s).isSome]) W ∧ ∀ i, pl s = some i → c = (i : Nat) := by
  obtain ⟨D, ho, hm, hc⟩ := h
  obtain ⟨v, ps, hrun, hv⟩ := ho.look_ok (string_keyed (by kernel_rfl)) (t := 44) (e := 3) (by kernel_rfl) (Try.zeroValue3 W) (plainElem_int int_lit (by decide)) (key_of s hs)
  obtain ⟨c, rfl, hcc, _⟩ := plainElem_int_inv int_lit hv
  simp only [Prod.mk.injEq] at hcc
  refine ⟨c, by rw [hrun, (hc s).1], fun i hi => ?_⟩
  have h1 := (hc s).2 i hi
  rw [hcc.1] at h1
  exact lit_inj h1
theorem PlaceAt.put {W : World} {mB N : Nat} {pl : List UInt8 → Option Nat} (h : PlaceAt W mB N pl) (s : List UInt8) (hs : s.length ≤ maxLen) (i : Nat) (hi : i ≤ 1048576) (hN : N < maxLen) :
    ∃ W', (Instr.mapUpdate 44 (.map (some mB)) (.string (bt s)) (.int .i64 (i : Nat))).run Try.prog W = .ok () W' ∧ PlaceAt W' mB (N + 1) (fun x => if x = s then some i else pl x) ∧ W.grownBy W' (some mB) := by
  obtain ⟨D, ho, hm, hc⟩ := h
  obtain ⟨W', h1, h2, h3⟩ := ho.update (string_keyed (by kernel_rfl)) (t := 44) (e := 3) (by kernel_rfl) hN (key_of s hs) (plainElem_int int_lit (wf_int (i : Nat) (by omega) (by omega)))
  refine ⟨W', h1, ⟨_, h2, ?_, fun x => ?_⟩, h3⟩
  · obtain ⟨es, rfl⟩ := hm
    exact ⟨_, rfl⟩
  · by_cases hx : x = s
    · subst hx
      dsimp only
      rw [if_pos rfl]
      refine ⟨has_put_same hm (by simp [WideAt.IsKeyLit]) _, fun j hj => ?_⟩
      cases hj
      exact atKey_put_same hm (by simp [WideAt.IsKeyLit]) _ _
    · dsimp only
      rw [if_neg hx, has_put_other (by simpa using hx)]
      refine ⟨(hc x).1, fun j hj => ?_⟩
      exact (atKey_put_other (by simpa using hx) _ _).trans ((hc x).2 j hj)

/-- What the closure goes by, in memory: the places of names; which are needed; the list of those. -/
structure LvS (B : Nat) (W : World) (atB mB neB nB lvB N n : Nat) (pl : List UInt8 → Option Nat) (nd : List Bool) (lv : Value) (xs : List Nat) : Prop where
  cAt : W.heap[atB]? = some (.cells #[.map (some mB)] 44 (0, 0))
  cMap : PlaceAt W mB N pl
  cNe : W.heap[neB]? = some (.cells #[.slice (some ⟨nB, 0, none⟩) n n] 48 (0, 0))
  cNd : W.heap[nB]? = some (.cells (nd.map Value.bool).toArray 4 (0, 0))
  cLv : W.heap[lvB]? = some (.cells #[lv] 36 (0, 0))
  row : W.ownsRow B 3 1 lv xs.length (xs.map fun i => Value.int .i64 (i : Nat))
  lo : atB < B ∧ neB < B ∧ nB < B ∧ lvB < B ∧ mB < B
  bB : B ≤ W.heap.size
  dis : neB ≠ nB ∧ neB ≠ lvB ∧ atB ≠ nB ∧ atB ≠ lvB ∧ mB ≠ nB ∧ mB ≠ lvB ∧ nB ≠ lvB
/-- What they mean. -/
structure LvM (n : Nat) (pl : List UInt8 → Option Nat) (nd : List Bool) (xs : List Nat) : Prop where
  len : nd.length = n
  mem : ∀ i, i ∈ xs ↔ nd[i]? = some true
  nodup : xs.Nodup
  small : n ≤ 1048576
  place : ∀ x i, pl x = some i → i < n
theorem LvM.lt {n : Nat} {pl : List UInt8 → Option Nat} {nd : List Bool} {xs : List Nat} (h : LvM n pl nd xs) : ∀ i ∈ xs, i < n := fun i hi => by
  have := (h.mem i).1 hi
  rw [← h.len]
  exact (List.getElem?_eq_some_iff.1 this).1
theorem nodup_len : ∀ {n : Nat} {xs : List Nat}, xs.Nodup → (∀ i ∈ xs, i < n) → xs.length ≤ n
  | 0, xs, _, h2 => by
    cases xs with
    | nil => exact Nat.le_refl _
    | cons a r => exact absurd (h2 a (by simp)) (by omega)
  | n + 1, xs, h1, h2 => by
    have h3 := nodup_len (n := n) (xs := xs.erase n) (h1.erase n) (fun i hi => by
      have h4 := (h1.mem_erase_iff).1 hi
      have := h2 i h4.2
      omega)
    by_cases hn : n ∈ xs
    · rw [List.length_erase_of_mem hn] at h3
      omega
    · rw [List.erase_of_not_mem hn] at h3
      omega
theorem LvM.le {n : Nat} {pl : List UInt8 → Option Nat} {nd : List Bool} {xs : List Nat} (h : LvM n pl nd xs) : xs.length ≤ n := nodup_len h.nodup h.lt
theorem LvM.push {n : Nat} {pl : List UInt8 → Option Nat} {nd : List Bool} {xs : List Nat} (h : LvM n pl nd xs) {i : Nat} (hi : nd[i]? = some false) : LvM n pl (nd.set i true) (xs ++ [i]) := by
  have hl := (List.getElem?_eq_some_iff.1 hi).1
  have hni : i ∉ xs := fun hx => by rw [(h.mem i).1 hx] at hi; cases hi
  refine ⟨by rw [List.length_set]; exact h.len, fun k => ?_, List.nodup_append.2 ⟨h.nodup, by simp, fun a ha b hb => by simp at hb; subst hb; exact fun e => hni (e ▸ ha)⟩, h.small, h.place⟩
  rw [List.getElem?_set, List.mem_append, h.mem k, List.mem_singleton]
  by_cases hk : i = k
  · subst hk
    simp [hl]
  · rw [if_neg hk]
    simp [Ne.symm hk]

theorem LvS.below {B : Nat} {W W' : World} {atB mB neB nB lvB N n : Nat} {pl : List UInt8 → Option Nat} {nd : List Bool} {lv : Value} {xs : List Nat} (h : LvS B W atB mB neB nB lvB N n pl nd lv xs) (hb : W.grownBy W' none) : LvS B W' atB mB neB nB lvB N n pl nd lv xs := by
  obtain ⟨h1, h2, h3, h4, h5, h6, h7, h8, h9⟩ := h
  have q := fun b (hl : b < B) => hb.block b (Nat.lt_of_lt_of_le hl h8) (by simp)
  exact ⟨(q _ h7.1).trans h1, h2.kept hb (by simp), (q _ h7.2.1).trans h3, (q _ h7.2.2.1).trans h4, (q _ h7.2.2.2.1).trans h5, h6.kept hb (by cases hh : lv.ownBlock with | none => exact .inl rfl | some g => exact .inr (by simp)), h7, Nat.le_trans h8 hb.size, h9⟩
theorem LvS.set {B : Nat} {W : World} {atB mB neB nB lvB N n : Nat} {pl : List UInt8 → Option Nat} {nd : List Bool} {lv : Value} {xs : List Nat} (h : LvS B W atB mB neB nB lvB N n pl nd lv xs) (i : Nat) : LvS B (W.setCell ⟨nB, i, none⟩ (.bool true)) atB mB neB nB lvB N n pl (nd.set i true) lv xs := by
  obtain ⟨h1, h2, h3, h4, h5, h6, h7, h8, d1, d2, d3, d4, d5, d6, d7⟩ := h
  have hg : W.grownBy (W.setCell ⟨nB, i, none⟩ (.bool true)) (some nB) := mz_set W nB i (.bool true)
  have q := fun b (hl : b ≠ nB) => Below.heap_setCell W ⟨nB, i, none⟩ (.bool true) b hl
  refine ⟨(q _ d3).trans h1, h2.kept hg (by simp [d5]), (q _ d1).trans h3, ?_, (q _ (Ne.symm d7)).trans h5, h6.kept hg ?_, h7, Nat.le_trans h8 hg.size, d1, d2, d3, d4, d5, d6, d7⟩
  · have := heap_set (o := i) h4 (.bool true)
    rw [List.setIfInBounds_toArray, ← List.map_set] at this
    exact this
  · cases hh : lv.ownBlock with
    | none => exact .inl rfl
    | some g =>
      refine .inr ?_
      have := h6.lt g hh
      simp
      omega
theorem LvS.held {B : Nat} {W w6 : World} {atB mB neB nB lvB N n : Nat} {pl : List UInt8 → Option Nat} {nd : List Bool} {lv : Value} {xs : List Nat} (h : LvS B W atB mB neB nB lvB N n pl nd lv xs) {o : Obj} (hg : (W.alloc o).grownBy w6 lv.ownBlock) : w6.heap[lvB]? = some (.cells #[lv] 36 (0, 0)) := by
  obtain ⟨h1, h2, h3, h4, h5, h6, h7, h8, h9⟩ := h
  refine (hg.block lvB (by simp; omega) (fun e => ?_)).trans ((Below.heap_alloc _ _ _ (by omega)).trans h5)
  have := h6.lt lvB e.symm
  omega
theorem LvS.push {B : Nat} {W w6 : World} {atB mB neB nB lvB N n : Nat} {pl : List UInt8 → Option Nat} {nd : List Bool} {lv lv' : Value} {xs : List Nat} {i : Nat} (h : LvS B W atB mB neB nB lvB N n pl nd lv xs) {o : Obj} (hg : (W.alloc o).grownBy w6 lv.ownBlock)
    (hown : w6.ownsRow B 3 1 lv' (xs.length + 1) ((xs.map fun i => Value.int .i64 (i : Nat)) ++ [.int .i64 (i : Nat)])) : LvS B (w6.setCell ⟨lvB, 0, none⟩ lv') atB mB neB nB lvB N n pl nd lv' (xs ++ [i]) := by
  have hc := h.held hg
  obtain ⟨h1, h2, h3, h4, h5, h6, h7, h8, d1, d2, d3, d4, d5, d6, d7⟩ := h
  have hne : ∀ b, b < B → some b ≠ lv.ownBlock := fun b hb e => by
    have := h6.lt b e.symm
    omega
  have q := fun b (hb : b < B) (hl : b ≠ lvB) => (Below.heap_setCell w6 ⟨lvB, 0, none⟩ lv' b hl).trans ((hg.block b (by simp; omega) (hne b hb)).trans (Below.heap_alloc W o b (by omega)))
  have hs : w6.grownBy (w6.setCell ⟨lvB, 0, none⟩ lv') (some lvB) := mz_set w6 lvB 0 lv'
  refine ⟨(q _ h7.1 d4).trans h1, ((h2.kept (below_grow' (row := none) (below_alloc' W o)) (by simp)).kept hg (hne _ h7.2.2.2.2)).kept hs (by simp [d6]), (q _ h7.2.1 d2).trans h3, (q _ h7.2.2.1 d7).trans h4, heap_set hc lv', ?_, h7, ?_, d1, d2, d3, d4, d5, d6, d7⟩
  · have e : (xs ++ [i]).length = xs.length + 1 := by simp
    rw [e, List.map_append]
    refine World.ownsRow.kept hown hs ?_
    cases hh : lv'.ownBlock with
    | none => exact .inl rfl
    | some g =>
      refine .inr ?_
      have := hown.lt g hh
      simp
      omega
  · have := hg.size
    have := hs.size
    simp at *
    omega
end

section
open Go.RowKit Ex0 Go.Maps Go.Sort Go.Shelf
attribute [local go_sem] bt_size bt_list bt_toList

theorem grow_iff {xs l l' : List Nat} {ss : List (List UInt8)} {pl : List UInt8 → Option Nat} {j : Nat} (h : ∀ i, i ∈ xs ++ l ↔ (i ∈ xs ∨ ∃ t, ∃ _ : t < ss.length, t < j ∧ pl ss[t] = some i)) (hj : j < ss.length)
    (h' : ∀ i, i ∈ xs ++ l' ↔ (i ∈ xs ++ l ∨ pl ss[j] = some i)) : ∀ i, i ∈ xs ++ l' ↔ (i ∈ xs ∨ ∃ t, ∃ _ : t < ss.length, t < j + 1 ∧ pl ss[t] = some i) := by
  intro i
  rw [h', h]
  constructor
  · rintro ((hx | ⟨t, ht, htj, hp⟩) | hp)
    · exact .inl hx
    · exact .inr ⟨t, ht, by omega, hp⟩
    · exact .inr ⟨j, hj, by omega, hp⟩
  · rintro (hx | ⟨t, ht, htj, hp⟩)
    · exact .inl (.inl hx)
    · by_cases htt : t = j
      · subst htt
        exact .inr hp
      · exact .inl (.inr ⟨t, ht, by omega, hp⟩)
/-- A slice of names, and the block that it lies in (any, if there are none). -/
theorem ns_form {ok : Nat → Prop} {w : World} {v : Value} {ss : List (List UInt8)} (h : NsV ok w v ss) (z : Nat) : ∃ ad g o c, v = .slice ad ss.length c ∧ (ss ≠ [] → ad = some ⟨g, o, none⟩ ∧ ok g ∧ ss.length ≤ c) ∧ (ss = [] → g = z) ∧ NsAt w g o ss ∧ (ss ≠ [] → c ≤ maxLen) := by
  rcases h with ⟨rfl, a, c, rfl⟩ | ⟨hn, g, o, c, rfl, hg, hl, hm, ha⟩
  · exact ⟨a, z, 0, c, rfl, fun h => absurd rfl h, fun _ => rfl, fun i hi => by simp at hi, fun h => absurd rfl h⟩
  · exact ⟨_, g, o, c, rfl, fun _ => ⟨rfl, hg, hl⟩, fun h => absurd h hn, ha, fun _ => hm⟩

set_option maxHeartbeats 4000000 in
set_option maxRecDepth 100000 in
theorem need_any (B M : Nat) (W : World) (atB mB neB nB lvB N n : Nat) (pl : List UInt8 → Option Nat) (nd : List Bool) (lv : Value) (xs : List Nat) (hL : LvS B W atB mB neB nB lvB N n pl nd lv xs) (hm : LvM n pl nd xs) (hM : M ≤ nB ∧ M ≤ lvB ∧ M ≤ B)
    (k : Int) (s : List UInt8) (nn op : Int) (vn va vb vc : Value) (ns : List (List UInt8)) (a b c : Fx) (hx : ExV (Old M) W vn va vb vc ns a b c) (hnm : nmE s ns a b c = true) (hce : costE ns a b c ≤ 1048576) (hcnt : (parts a b c).count + 1 ≤ 131072) (hby : ownBytes ns b c + bytesF (parts a b c) ≤ 2147483647) :
    Calls Try.prog 14 #[exV k s nn op vn va vb vc, .pointer (some ⟨atB, 0, none⟩), .pointer (some ⟨neB, 0, none⟩), .pointer (some ⟨lvB, 0, none⟩)] W fun e w' =>
      (∃ v, e = .returned v) ∧ Below M W w' ∧ ∃ nd' lv' l, LvS B w' atB mB neB nB lvB N n pl nd' lv' (xs ++ l) ∧ LvM n pl nd' (xs ++ l) ∧ ∀ i, i ∈ xs ++ l ↔ (i ∈ xs ∨ ∃ x, fvE x k s ns a b c = true ∧ pl x = some i) := by
  have HX := Lib.hid hx
  have hMW : M ≤ W.heap.size := Nat.le_trans hM.2.2 hL.bB
  obtain ⟨an, cn, rfl⟩ := hx.ns.slice
  obtain ⟨aa, ca, rfl⟩ := hx.a.slice
  obtain ⟨ab, cb, rfl⟩ := hx.b.slice
  obtain ⟨ac, cc, rfl⟩ := hx.c.slice
  clear hx
  unfold exV
  obtain ⟨i0, hi, hz0, hz1, hz2⟩ := info_of info_int1
  have hui : Try.prog.underlying 36 = some (.slice 3) := by kernel_rfl
  have HI := Lib.hid (And.intro hi (And.intro hz0 (And.intro hz1 hz2)))
  have HL0 := Lib.hid hL
  have HM0 := Lib.hid hm
  have hn6 := hm.small
  clear hL hm hi hz0 hz1 hz2
  go_enter Try.func14, Try.ntmps14
  go_wp2_with fail
  go_at_call 15
  refine (free_any k s nn op _ _ _ _ ns a b c _ (HX.out.keep (fun q hq => ⟨Nat.lt_of_lt_of_le (Nat.lt_of_lt_of_le hq hMW) (by simp), fun o => (below_alloc' W _).cell (p := ⟨q, o, none⟩) (Nat.lt_of_lt_of_le hq hMW)⟩)) hnm hce hcnt hby).mono ?_
  rintro e w2 ⟨v2, rfl, ss, hv, hms, hml, hb2⟩
  have hb2' := (below_alloc' W (exBox k s nn op (.slice an ns.length cn) (.slice aa a.len ca) (.slice ab b.len cb) (.slice ac c.len cc))).trans (hb2.mono (by simp))
  have HB2 := Lib.hid hb2'
  have HL2 := Lib.hid (HL0.out.below (grow_none hb2'))
  have hs2 := hb2'.size
  obtain ⟨ad, g, o, c2, rfl, had, hgz, hns, hcm⟩ := ns_form hv w2.heap.size
  have HNs := Lib.hid (And.intro had (And.intro hgz (And.intro hns (And.intro hcm (And.intro hms hml)))))
  have hgW : W.heap.size ≤ g := by
    by_cases h0 : ss = []
    · rw [hgz h0]; exact hs2
    · have := (had h0).2.1.1
      simp at this
      omega
  have hg2 : ss ≠ [] → g < w2.heap.size := fun h0 => (had h0).2.1.2
  clear hv hb2 hb2' had hgz hns hcm hms hml HX
  go_wp2_with fail
  go_loopw [12] (fun u wr => ∃ (j : Nat) (l : List Nat) (nd' : List Bool) (lv' : Value), j ≤ ss.length ∧ u = .int .i64 j ∧ Below M W wr ∧ w2.heap.size ≤ wr.heap.size ∧ LvS B wr atB mB neB nB lvB N n pl nd' lv' (xs ++ l) ∧ LvM n pl nd' (xs ++ l) ∧
    (∀ i, i ∈ xs ++ l ↔ (i ∈ xs ∨ ∃ t, ∃ _ : t < ss.length, t < j ∧ pl ss[t] = some i)) ∧ NsAt wr g o ss ∧ lv'.ownBlock ≠ some g) (fun u _ => ss.length - (intOf u).toNat)
  case atStart =>
    refine ⟨0, [], nd, lv, Nat.zero_le _, rfl, HB2.out.mono hMW, Nat.le_refl _, by rw [List.append_nil]; exact HL2.out, by rw [List.append_nil]; exact HM0.out, fun i => by simp, HNs.out.2.2.1, fun e => ?_⟩
    have := HL0.out.row.lt g e
    omega
  case round =>
    obtain ⟨j, l, nd', lv', hj, rfl, hbM, hsz, hLr, hMr, hiff, hns, hown⟩ := hrel
    have HLr := Lib.hid hLr
    have HMr := Lib.hid hMr
    have HBr := Lib.hid hbM
    have HIf := Lib.hid hiff
    have HNr := Lib.hid hns
    have hxl := hMr.le
    by_cases hlt : j < ss.length
    · have hss : ss ≠ [] := fun h => by rw [h] at hlt; simp at hlt
      obtain ⟨rfl, _, hlc⟩ := HNs.out.1 hss
      have hc2 := HNs.out.2.2.2.1 hss
      have hg3 := hg2 hss
      have g0 := hns j hlt
      have k1 := cell_of hLr.cAt 0 _ rfl
      have k2 := cell_of hLr.cNe 0 _ rfl
      have k4 := cell_of hLr.cLv 0 _ rfl
      obtain ⟨cv, hlk, hci⟩ := hLr.cMap.look ss[j] (HNs.out.2.2.2.2.2 _ (List.getElem_mem hlt))
      unfold maxLen at hc2
      clear hLr hMr hiff hns hbM
      cases hp : pl ss[j] with
      | none =>
        rw [hp] at hlk
        simp only [Option.isSome] at hlk
        go_wp2_with fail
        go_roundw
        case rel => exact ⟨j + 1, l, nd', lv', hlt, by go_num, HBr.out, hsz, HLr.out, HMr.out, grow_iff HIf.out hlt (fun i => by rw [hp]; simp), HNr.out, hown⟩
        case measure => simp [intOf]; omega
      | some i =>
        have hcv := hci i hp
        subst hcv
        rw [hp] at hlk
        simp only [Option.isSome] at hlk
        have hin := HMr.out.place _ _ hp
        have hin' : (i : Int) < n := by omega
        obtain ⟨bv, hbv⟩ : ∃ bv, nd'[i]? = some bv := ⟨_, List.getElem?_eq_getElem (by rw [HMr.out.len]; exact hin)⟩
        have k3 : wr.cell? ⟨nB, i, none⟩ = some (.bool bv) := cell_of HLr.out.cNd i _ (by simp [hbv])
        cases bv with
        | true =>
          have hmi : i ∈ xs ++ l := (HMr.out.mem i).2 hbv
          clear hci
          go_wp2_with fail
          go_roundw
          case rel => exact ⟨j + 1, l, nd', lv', hlt, by go_num, HBr.out, hsz, HLr.out, HMr.out, grow_iff HIf.out hlt (fun i' => ⟨.inl, fun h => h.elim id (fun h => by rw [hp] at h; cases h; exact hmi)⟩), HNr.out, hown⟩
          case measure => simp [intOf]; omega
        | false =>
          have k5 := frozen_of HLr.out.cNd i
          have HL3 := Lib.hid (HLr.out.set i)
          have HM3 := Lib.hid (HMr.out.push hbv)
          have k7 := cell_of HL3.out.cLv 0 _ rfl
          have hnew : ∀ q u, [Value.int .i64 (i : Int)][q]? = some u → ((wr.setCell ⟨nB, i, none⟩ (.bool true)).alloc (.cells #[.int .i64 i] 3)).cell? ((⟨wr.heap.size, 0, none⟩ : Addr).add q) = some u := by
            have := cell_one_new (wr.setCell ⟨nB, i, none⟩ (.bool true)) (.int .i64 i) 3
            have e : (wr.setCell ⟨nB, i, none⟩ (.bool true)).heap.size = wr.heap.size := by simp [World.setCell]
            rwa [e] at this
          have HN := Lib.hid hnew
          clear hnew hci
          go_wp2_with (at_builtin; refine wpList_append_own_at _ rfl _ _ 36 rfl B 3 i0 (.int .i64 0) 1 8 hui HI.out.1 HI.out.2.1 HI.out.2.2.1 HI.out.2.2.2 rfl (by decide) lv' (xs ++ l).length _ rfl (HL3.out.row.kept (below_grow' (row := none) (below_alloc' _ _)) (by cases hh : lv'.ownBlock with | none => exact .inl rfl | some g => exact .inr (by simp))) ⟨wr.heap.size, 0, none⟩ 1 1 [.int .i64 i] rfl rfl HN.out (by simp [Value.oneCell']) (by simp only [maxLen]; omega) (by omega) (by have := HL3.out.bB; simp; simp at this; omega) ?_; intro lv6 w6 hown6 hgrow _ hat6; obtain ⟨g6, c6, rfl⟩ := own_form hown6; have z1 := cell_of (HL3.out.held hgrow) 0 _ rfl; have z2 := frozen_of (HL3.out.held hgrow) 0; have HL6 := Lib.hid (HL3.out.push hgrow hown6); have HG6 := Lib.hid (And.intro hgrow hat6); clear hgrow hown6 hat6)
          go_wp2
          have hMr : M ≤ wr.heap.size := by omega
          have hlo := HL0.out.lo
          have hBW := HL0.out.bB
          have hgk : (w6.setCell ⟨lvB, 0, none⟩ (.slice (some ⟨g6, 0, none⟩) ((xs ++ l).length + 1) c6)).heap[g]? = wr.heap[g]? :=
            (Below.heap_setCell _ _ _ g (by dsimp only; omega)).trans ((HG6.out.1.block g (by simp [World.setCell]; omega) (Ne.symm hown)).trans ((Below.heap_alloc _ _ _ (by simp [World.setCell]; omega)).trans (Below.heap_setCell _ _ _ g (by dsimp only; omega))))
          have hbl := (((HBr.out.setCell (p := ⟨nB, i, none⟩) hM.1 (.bool true)).alloc (by simp [World.setCell]; omega) (.cells #[.int .i64 i] 3)).grown HG6.out.1 (by simp [World.setCell]; omega) (fun q hq => by have := (HL3.out.row.lt q hq).1; omega)).setCell (p := ⟨lvB, 0, none⟩) hM.2.1 (.slice (some ⟨g6, 0, none⟩) ((xs ++ l).length + 1) c6)
          have hsz6 : w2.heap.size ≤ (w6.setCell ⟨lvB, 0, none⟩ (.slice (some ⟨g6, 0, none⟩) ((xs ++ l).length + 1) c6)).heap.size := by
            have := HG6.out.1.size
            simp [World.setCell] at this ⊢
            omega
          have h6 := HL6.out
          have m6 := HM3.out
          rw [List.append_assoc] at h6 m6
          have hq6 : g6 ≠ g := by
            rintro rfl
            rcases HG6.out.2 with h | h
            · exact hown h.symm
            · simp [Value.ownBlock, World.setCell] at h
              omega
          simp only [List.length_append] at h6 hgk hbl hsz6
          refine ⟨⟨j + 1, l ++ [i], nd'.set i true, _, hlt, by go_num, hbl, hsz6, h6, m6, grow_iff HIf.out hlt (fun i' => ?_), fun t ht => (World.cell?_of_block (a := ⟨g, o + t, none⟩) hgk).trans (HNr.out t ht), fun e => hq6 (Option.some.inj e)⟩, ?_⟩
          · rw [hp]
            simp [or_assoc, eq_comm]
          · simp [intOf]; omega
    · obtain rfl : j = ss.length := by omega
      go_wp2_with fail
      go_end0
      refine ⟨⟨_, rfl⟩, HBr.out, nd', lv', l, HLr.out, HMr.out, fun i => ?_⟩
      rw [HIf.out]
      constructor
      · rintro (h | ⟨t, ht, _, hp⟩)
        · exact .inl h
        · exact .inr ⟨ss[t], (HNs.out.2.2.2.2.1 _).1 (List.getElem_mem ht), hp⟩
      · rintro (h | ⟨x, hx, hp⟩)
        · exact .inl h
        · obtain ⟨t, ht, rfl⟩ := List.getElem_of_mem ((HNs.out.2.2.2.2.1 x).2 hx)
          exact .inr ⟨t, ht, ht, hp⟩
end
end Go.Proofs.Ytkdpojmbahjdjaa
