/- The free names of every expression: core.Free. Bounds on names and on how great it is. -/
import Derived.Test.YtkdpojmbahjdjaaMeasF
import Derived.Test.YtkdpojmbahjdjaaLookF
namespace Go.Proofs.Ytkdpojmbahjdjaa
section
open Go.RowKit Ex0 Go.Maps Go.Sort Go.Shelf
attribute [local go_sem] bt_size bt_list bt_toList

theorem mem_keys {H : Type} {w : World} {P : Program} {k : TypeId} {R : Value → Option (DataW H × List MemPlace)} {b n : Nat} {D0 : DataW H} (hown : w.ownsMap P k R b n D0) (hk : P.underlying k = some .string) (x : List UInt8) : x ∈ strKeys D0 ↔ Maps.has D0 (.string x) = true := by
  obtain ⟨es, rfl, hko⟩ := hown.keysOf
  have hs : ∀ p ∈ es, ∃ y, p.1 = .string y := fun p hp => by
    obtain ⟨v, hv⟩ := hko p hp
    obtain ⟨y, _, hy, _⟩ := Maps.keyOf_str hk hv
    exact ⟨y, hy⟩
  rw [has_eq, List.any_eq_true]
  show x ∈ es.map (fun p => strOf p.1) ↔ _
  rw [List.mem_map]
  constructor
  · rintro ⟨p, hp, rfl⟩
    obtain ⟨a, ha⟩ := hs p hp
    exact ⟨p, hp, by rw [ha]; simp [Lit.sameKey, strOf]⟩
  · rintro ⟨p, hp, h⟩
    obtain ⟨a, ha⟩ := hs p hp
    rw [ha] at h
    exact ⟨p, hp, by rw [ha]; simpa [Lit.sameKey, strOf] using h⟩

/-- All blocks that are new. -/
def New (W w' : World) : Nat → Prop := fun b => W.heap.size ≤ b ∧ b < w'.heap.size
theorem ns_of_row_new {w : World} {base : Nat} {E : TypeId} {v : Value} {ss : List (List UInt8)} (h : w.ownsRow base E 1 v ss.length (ss.map encStr)) {ok : Nat → Prop} (hok : ∀ b, base ≤ b → b < w.heap.size → ok b) : NsV ok w v ss := by
  have h0 := ns_of_row h
  rcases h0 with h0 | ⟨hn, g, o, c, rfl, _, h1, h2, h3⟩
  · exact .inl h0
  · exact .inr ⟨hn, g, o, c, rfl, hok g (h.lt g rfl).1 (h.lt g rfl).2, h1, h2, h3⟩
theorem nsv_weak {ok ok' : Nat → Prop} {w : World} {v : Value} {ss : List (List UInt8)} (h : NsV ok w v ss) (hok : ∀ b, ok b → ok' b) : NsV ok' w v ss := h.keep (keep_le w hok)
/-- What a finder answers. -/
def FreePost (G : List UInt8 → Bool) (W : World) (v : Value) (w' : World) : Prop := ∃ ss : List (List UInt8), NsV (New W w') w' v ss ∧ (∀ x, x ∈ ss ↔ G x = true) ∧ (∀ x ∈ ss, x.length ≤ maxLen) ∧ Below W.heap.size W w'

set_option maxHeartbeats 2000000 in
theorem freeIn_any (M bk of : Nat) (k : Int) (s : List UInt8) (nn op : Int) (vn va vb vc : Value) (ns : List (List UInt8)) (a b c : Fx) (W : World) (h : ExL M W bk of k s nn op vn va vb vc ns a b c) (hMW : M ≤ W.heap.size) (hnm : nmE s ns a b c = true) (hce : costE ns a b c ≤ 1048576) :
    Calls Try.prog 31 #[.pointer (some ⟨bk, of, none⟩)] W fun e w' => ∃ v, e = .returned v ∧ FreePost (fun x => fvE x k s ns a b c) W v w' := by
  have HL := Lib.hid h
  have hmm := @run_makeMap Try.prog
  clear h
  go_enter Try.func31, Try.ntmps31
  go_wp2_with fail
  go_at_call 57
  obtain ⟨W1, hW1⟩ : ∃ W1, W1 = (((W.alloc (.map #[] 0)).alloc (.map #[] 0)).alloc (.cells #[.map (some W.heap.size), .map (some (W.heap.size + 1))] 131)) := ⟨_, rfl⟩
  have hb1 : Below W.heap.size W W1 := by
    rw [hW1]
    exact ((below_alloc' _ _).alloc (by simp) _).alloc (by simp <;> omega) _
  have hf1 : W1.ownsMap Try.prog 9 (unitElem (H := Unit)) (W.heap.size + 1) 0 (.map []) := by
    rw [hW1]
    have := (World.ownsMap_made (W.alloc (.map #[] 0)) Try.prog 9 (unitElem (H := Unit))).alloc (.cells #[.map (some W.heap.size), .map (some (W.heap.size + 1))] 131)
    simpa using this
  have ho1 : W1.ownsMap Try.prog 9 (plainElem (H := Unit) Try.prog 3) W.heap.size 0 (.map []) := by
    rw [hW1]
    exact ((World.ownsMap_made W Try.prog 9 (plainElem (H := Unit) Try.prog 3)).alloc (.map #[] 0)).alloc (.cells #[.map (some W.heap.size), .map (some (W.heap.size + 1))] 131)
  have hd1 : W1.heap[W.heap.size + 1 + 1]? = some (.cells #[.map (some W.heap.size), .map (some (W.heap.size + 1))] 131 (0, 0)) := by
    rw [hW1]
    have := World.alloc_heap_new ((W.alloc (.map #[] 0)).alloc (.map #[] 0)) (.cells #[.map (some W.heap.size), .map (some (W.heap.size + 1))] 131)
    simpa using this
  have hF : FSt W1 (W.heap.size + 1 + 1) W.heap.size (W.heap.size + 1) 0 (fun _ => 0) (fun _ => false) := ⟨⟨hd1, by omega, by omega, by omega⟩, ⟨.map [], ho1, ⟨_, rfl⟩, fun _ => rfl⟩, ⟨.map [], hf1, ⟨_, rfl⟩, fun _ => rfl⟩⟩
  have hcon := look_any M (W.heap.size + 1 + 1) W.heap.size (W.heap.size + 1) hMW (by omega) ((parts a b c).count + 1) bk of k s nn op vn va vb vc ns a b c W1 (fun _ => 0) (fun _ => false) 0 (by omega) (HL.out.grow (grow_none hb1) (fun q e => by cases e) hMW) (Nat.le_trans hMW hb1.size) hF hnm (by omega) (fun x => ⟨Int.le_refl _, by omega⟩) hce
  rw [hW1] at hcon
  refine hcon.mono ?_
  rw [← hW1]
  clear hcon hF hf1 ho1 hd1 hW1
  rintro e w1 ⟨⟨v1, rfl⟩, hF, hT⟩
  have hB1 : Below W.heap.size W w1 := hb1.trans ⟨hT.os, hT.tape, hT.output, hT.size, fun i hi => hT.block i (Nat.lt_of_lt_of_le hi hb1.size) (by omega) (by omega)⟩
  have hc1 : w1.cell? ⟨W.heap.size + 1 + 1, 1, none⟩ = some (.map (some (W.heap.size + 1))) := cell_of hF.fd.cells 1 _ rfl
  obtain ⟨D, hown, _, hhas⟩ := hF.fo
  have hsz := hown.size_le
  have HD := Lib.hid (And.intro hown hhas)
  clear hT hF hb1 hhas HL
  go_wp2_with fail
  go_at_call 53
  refine (keys_any _ _).mono ?_
  rintro e w2 ⟨rfl, rfl⟩
  go_wp2_with fail
  go_at_call 52
  refine (sorted_any _ _ _ _ w1 hown (by unfold maxLen; omega) (by omega)).mono ?_
  rintro e w3 ⟨v3, ss, rfl, hp, hrow, _, hb3⟩
  go_wp2_with fail
  go_ret
  have hlen : ss.length = (ss.mergeSort (fun x y => decide (x ≤ y))).length := by rw [List.length_mergeSort]
  rw [hlen] at hrow
  have hmem : ∀ x, x ∈ ss.mergeSort (fun x y => decide (x ≤ y)) ↔ x ∈ strKeys D := fun x => by rw [List.mem_mergeSort]; exact hp.mem_iff
  refine ⟨_, rfl, _, ns_of_row_new hrow (fun b h1 h2 => ⟨by simp at h1; have := hB1.size; omega, h2⟩), fun x => ?_, fun x hx => strKeys_le HD.out.1 (by kernel_rfl) x ((hmem x).1 hx), (hB1.alloc hB1.size _).trans (hb3.mono (by simp; have := hB1.size; omega))⟩
  rw [hmem, mem_keys HD.out.1 (by kernel_rfl), HD.out.2]
  simp

set_option maxHeartbeats 1000000 in
theorem mfree_any (M mb kb bk of : Nat) (p : Int) (k : Int) (s : List UInt8) (nn op : Int) (vn va vb vc : Value) (ns : List (List UInt8)) (a b c : Fx) (W : World) (H : MHyp M W mb kb p (parts a b c).count ((ownBytes ns b c : Nat) + bytesF (parts a b c))) (hm : MzAt W mb kb p)
    (h : ExL M W bk of k s nn op vn va vb vc ns a b c) (hnm : nmE s ns a b c = true) (hce : costE ns a b c ≤ 1048576) :
    Calls Try.prog 22 #[.pointer (some ⟨mb, 0, none⟩), .pointer (some ⟨bk, of, none⟩)] W fun e w' => (∃ v ss, e = .returned (.tuple #[v, .bool true]) ∧ NsV (New W w') w' v ss ∧ (∀ x, x ∈ ss ↔ fvE x k s ns a b c = true) ∧ (∀ x ∈ ss, x.length ≤ maxLen) ∧ W.grownBy w' (some mb)) := by
  have HL := Lib.hid h
  have HM := Lib.hid hm
  have HH := Lib.hid H
  have hMW := H.hMW
  have hMm := H.hM
  clear hm h H
  go_enter Try.func22, Try.ntmps22
  go_wp2_with fail
  go_at_call 29
  refine (measure_any M mb kb bk of p k s nn op vn va vb vc ns a b c W _ rfl HH.out HM.out HL.out).mono ?_
  rintro e w1 ⟨⟨x0, x1, x2, x3, rfl, hx2⟩, hg1⟩
  have HL1 := Lib.hid (HL.out.grow hg1 (fun q e => by cases e; exact hMm) hMW)
  have hs1 := hg1.size
  have HG1 := Lib.hid hg1
  have hd1 : decide (x2 > 2147483647) = false := decide_eq_false (by omega)
  have hd2 : decide (2147483647 < x2) = false := decide_eq_false (by omega)
  clear hg1
  go_wp2_with fail
  go_at_call 31
  refine (freeIn_any M bk of k s nn op vn va vb vc ns a b c _ (HL1.out.grow (below_grow' (row := none) (below_alloc' _ _)) (fun q e => by cases e) (by omega)) (by simp; omega) hnm hce).mono ?_
  rintro e w2 ⟨v2, rfl, ss, hv, hms, hml, hb2⟩
  have HV := Lib.hid (And.intro hv (And.intro hms (And.intro hml hb2)))
  clear hv hms hml hb2
  go_wp2_with fail
  go_ret2
  exact ⟨_, ss, rfl, nsv_weak HV.out.1 (fun q hq => ⟨by have := hq.1; simp at this; omega, hq.2⟩), HV.out.2.1, HV.out.2.2.1, grow_far (grow_far HG1.out (below_grow' (row := none) (below_alloc' _ _)) (fun q e => by cases e)) (below_grow' (row := none) HV.out.2.2.2) (fun q e => by cases e)⟩

set_option maxHeartbeats 1000000 in
theorem free_any (k : Int) (s : List UInt8) (nn op : Int) (vn va vb vc : Value) (ns : List (List UInt8)) (a b c : Fx) (W : World) (hx : ExV (Old W.heap.size) W vn va vb vc ns a b c) (hnm : nmE s ns a b c = true) (hce : costE ns a b c ≤ 1048576) (hcnt : (parts a b c).count + 1 ≤ 131072)
    (hby : ownBytes ns b c + bytesF (parts a b c) ≤ 2147483647) :
    Calls Try.prog 15 #[exV k s nn op vn va vb vc] W fun e w' => ∃ v, e = .returned v ∧ FreePost (fun x => fvE x k s ns a b c) W v w' := by
  have HX := Lib.hid hx
  obtain ⟨an, cn, rfl⟩ := hx.ns.slice
  obtain ⟨aa, ca, rfl⟩ := hx.a.slice
  obtain ⟨ab, cb, rfl⟩ := hx.b.slice
  obtain ⟨ac, cc, rfl⟩ := hx.c.slice
  clear hx
  unfold exV
  go_enter Try.func15, Try.ntmps15
  go_wp2_with fail
  go_at_call 21
  refine (newMeasurer_c _ _).mono ?_
  rintro e w1 ⟨rfl, rfl⟩
  go_wp2_with fail
  go_at_call 22
  obtain ⟨W1, hW1⟩ : ∃ W1, W1 = ((W.alloc (exBox k s nn op (.slice an ns.length cn) (.slice aa a.len ca) (.slice ab b.len cb) (.slice ac c.len cc))).alloc (.map #[] 0)).alloc (.cells #[.int .i64 1048576, .map (some (W.heap.size + 1)), .slice none 0 0] 80) := ⟨_, rfl⟩
  have hbx : Below (W.heap.size + 1) (W.alloc (exBox k s nn op (.slice an ns.length cn) (.slice aa a.len ca) (.slice ab b.len cb) (.slice ac c.len cc))) W1 := by
    subst hW1
    exact ((Below.refl _ _).alloc (by simp) _).alloc (by simp <;> omega) _
  have hb0 : Below W.heap.size W W1 := by
    subst hW1
    exact ((below_alloc' _ _).alloc (by simp) _).alloc (by simp <;> omega) _
  have hmz : MzAt W1 (W.heap.size + 1 + 1) (W.heap.size + 1) 1048576 := by
    subst hW1
    have := World.alloc_heap_new ((W.alloc (exBox k s nn op (.slice an ns.length cn) (.slice aa a.len ca) (.slice ab b.len cb) (.slice ac c.len cc))).alloc (.map #[] 0)) (.cells #[.int .i64 1048576, .map (some (W.heap.size + 1)), .slice none 0 0] 80)
    unfold MzAt
    simpa using this
  have hkb : W1.heap[W.heap.size + 1]? = some (.map #[] 0) := by
    subst hW1
    refine (Below.heap_alloc _ _ _ (by simp)).trans ?_
    have := World.alloc_heap_new (W.alloc (exBox k s nn op (.slice an ns.length cn) (.slice aa a.len ca) (.slice ab b.len cb) (.slice ac c.len cc))) (.map #[] 0)
    simpa using this
  have hsz : W1.heap.size = W.heap.size + 1 + 1 + 1 := by subst hW1; simp
  obtain ⟨c0, c1, c2, c3, c4, c5, c6, c7⟩ := exBox_cell (Nat.lt_succ_self _) hbx
  have hex : ExL (W.heap.size + 1) W1 W.heap.size 0 k s nn op (.slice an ns.length cn) (.slice aa a.len ca) (.slice ab b.len cb) (.slice ac c.len cc) ns a b c :=
    ⟨Nat.lt_succ_self _, c0, c1, c2, c3, c4, c5, c6, c7, HX.out.keep (fun q hq => ⟨Nat.lt_succ_of_lt hq, fun o => hb0.cell (p := ⟨q, o, none⟩) hq⟩)⟩
  have hcon := mfree_any (W.heap.size + 1) (W.heap.size + 1 + 1) (W.heap.size + 1) W.heap.size 0 1048576 k s nn op _ _ _ _ ns a b c W1 ⟨by omega, by omega, by omega, hkb, by omega, hcnt, by omega, by omega⟩ hmz hex hnm hce
  rw [hW1] at hcon
  refine hcon.mono ?_
  rw [← hW1]
  clear hcon hex c0 c1 c2 c3 c4 c5 c6 c7 hmz hkb hbx hW1
  rintro e w2 ⟨v2, ss, rfl, hv, hms, hml, hg2⟩
  have HV := Lib.hid (And.intro hv (And.intro hms (And.intro hml (hb0.grown hg2 (by omega) (fun q e => by cases e; omega)))))
  clear hv hms hml hg2 hb0
  go_wp2_with fail
  go_ret
  exact ⟨_, rfl, ss, nsv_weak HV.out.1 (fun q hq => ⟨by have := hq.1; omega, hq.2⟩), HV.out.2.1, HV.out.2.2.1, HV.out.2.2.2⟩
end
end Go.Proofs.Ytkdpojmbahjdjaa
