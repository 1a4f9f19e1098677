/- The contract of slices.Sorted at the keys of a map of this seat. No condition but a bound on how many keys there are. -/
import Derived.Test.YtfcogjlojfcfkaaGreatShelf
import Derived.Test.YtfcogjlojfcfkaaGreatMS
import Derived.Deep.RegionHeld3
section
namespace Go.Proofs.YtfcogjlojfcfkaaGreat
open Go.Proofs Go.RowKit Go.Maps Go.Sort Go.Shelf

theorem sorts_any (m : Nat) : AnyZ.SortsIn Tryz.prog Tryz.laidSorted_ren Fence.wide m :=
  ⟨fun blk off cap ss W hH hblk hsz => callsIn_wide.2 (AnyM.slices_Sort_string Tryz.laidSortS blk off cap ss W hH hblk hsz), fun p cap W => callsIn_wide.2 (AnyM.slices_Sort_string_none Tryz.laidSortS p cap W)⟩
theorem keys_any (mb : Option Nat) (W : World) : Calls Tryz.prog 53 #[.map mb] W fun e w' =>
    e = .returned (.func (.func 76) #[] #[.pointer (some ⟨W.heap.size, 0, none⟩)]) ∧ w' = W.alloc (.cells #[.map mb] 108) :=
  (callsIn_wide (n := 5)).1 (AnyZ.keys_in Tryz.laidKeys Fence.wide 5 trivial rfl mb W)
set_option maxHeartbeats 1000000 in
theorem sorted_any {H : Type} (b nn : Nat) (D0 : DataW H) (R : Value → Option (DataW H × List MemPlace)) (w : World) (hown : w.ownsMap Tryz.prog 9 R b nn D0) (hmax : Maps.size D0 ≤ maxLen) (hbytes : Maps.size D0 * 16 ≤ 140737488355328) :
    Calls Tryz.prog 52 #[.func (.func 76) #[] #[.pointer (some ⟨w.heap.size, 0, none⟩)]] (w.alloc (.cells #[.map (some b)] 108)) fun e w' =>
      ∃ (v : Value) (ss : List (List UInt8)), e = .returned v ∧ ss.Perm (strKeys D0) ∧ w'.ownsRow (w.alloc (.cells #[.map (some b)] 108)).heap.size 9 1 v ss.length ((ss.mergeSort (fun x y => decide (x ≤ y))).map encStr) ∧
        (v = .slice none 0 0 ↔ ss = []) ∧ Below (w.alloc (.cells #[.map (some b)] 108)).heap.size (w.alloc (.cells #[.map (some b)] 108)) w' := by
  have hbl := hown.lt
  have hseq : SeqGives Fence.wide 2 Tryz.prog 76 #[.pointer (some ⟨w.heap.size, 0, none⟩)] encStr (fun ss => ss.Perm (strKeys D0)) (Maps.size D0) (w.alloc (.cells #[.map (some b)] 108)) :=
    AnyZ.keys_gives (ρ := Tryz.laidKeys_ren) { Tryz.laidKeys with } Fence.wide _ trivial rfl (by omega) w.heap.size b nn D0 _ (by simp) (by simp) (by
      obtain ⟨es, clock, hb, Ft, hs, hD⟩ := hown
      exact ⟨es, clock, (Below.heap_alloc _ _ b hbl).trans hb, Ft, hs, hD⟩)
  exact (callsIn_wide (n := 5)).1 (AnyZ.sorted_in Tryz.laidSorted Fence.wide 5 trivial trivial trivial trivial rfl (by omega) (sorts_any _) (enters_of Tryz.func75 (by kernel_rfl) rfl) 76 #[.pointer (some ⟨w.heap.size, 0, none⟩)] trivial
    (enters_of Tryz.func76 (by kernel_rfl) rfl) _ _ hmax hbytes _ hseq)
end Go.Proofs.YtfcogjlojfcfkaaGreat
end

section
namespace Go.Proofs.YtfcogjlojfcfkaaGreat
section
open Go.RowKit Ex0 Go.Maps Go.Sort Go.Shelf
attribute [local go_sem] bt_size bt_list bt_toList

theorem ns_of_row {w : World} {base : Nat} {E : TypeId} {v : Value} {ss : List (List UInt8)} (h : w.ownsRow base E 1 v ss.length (ss.map encStr)) : NsV (Old w.heap.size) w v ss := by
  obtain ⟨_, h⟩ := h
  rcases h with ⟨rfl, hx⟩ | ⟨g, cap, cur, rfl, hg, hh, hl, hm, hs, hx⟩
  · exact .inl ⟨List.eq_nil_of_length_eq_zero hx, _, _, rfl⟩
  · by_cases hn : ss = []
    · subst hn
      exact .inl ⟨rfl, _, _, rfl⟩
    · refine .inr ⟨hn, g, 0, cap, rfl, (Array.getElem?_eq_some_iff.1 hh).1, hl, hm, fun i hi => ?_⟩
      have h1 : (cur.toList.take (ss.length * 1))[i]? = some (encStr ss[i]) := by rw [hx]; simp [hi]
      rw [List.getElem?_take] at h1
      split at h1
      · have h2 : cur[i]? = some (encStr ss[i]) := by rw [← h1]; simp
        simp only [World.cell?, hh, Nat.zero_add, Option.isSome_none, Bool.false_eq_true, if_false]
        exact h2
      · cases h1

/-- The names that are free in an expression without parts. -/
def lfList (k : Int) (s : List UInt8) : List (List UInt8) := if k == 1 then [s] else []
theorem lf_keys (k : Int) (s : List UInt8) : strKeys (lfNames k s) = lfList k s := by
  unfold lfNames lfList
  split <;> rfl
theorem lf_perm {k : Int} {s : List UInt8} {ss : List (List UInt8)} (h : ss.Perm (strKeys (lfNames k s))) : ss = lfList k s ∧ ss.mergeSort (fun x y => decide (x ≤ y)) = lfList k s := by
  rw [lf_keys] at h
  unfold lfList at h ⊢
  split at h
  · rename_i hk
    rw [if_pos hk]
    have := List.perm_singleton.1 h
    subst this
    exact ⟨rfl, by simp⟩
  · rename_i hk
    rw [if_neg hk]
    have := List.perm_nil.1 h
    subst this
    exact ⟨rfl, by simp⟩
theorem lf_size (k : Int) (s : List UInt8) : Maps.size (lfNames k s) ≤ 1 := by
  unfold lfNames
  split <;> simp [Maps.size]

set_option maxHeartbeats 1000000 in
theorem freeIn_lf (b : Nat) (k : Int) (s : List UInt8) (W : World) (h : LfAt W b k s) (hsl : s.length ≤ maxLen) :
    Calls Tryz.prog 29 #[.pointer (some ⟨b, 0, none⟩)] W fun e w' => ∃ v, e = .returned v ∧ NsV (Old w'.heap.size) w' v (lfList k s) ∧ Below W.heap.size W w' := by
  have HL := Lib.hid h
  have hbl := h.lt
  have hmm := @run_makeMap Tryz.prog
  clear h
  go_enter Tryz.func29, Tryz.ntmps29
  go_wp2_with fail

  go_at_call 57
  have hb1 : Below W.heap.size W (((W.alloc (.map #[] 0)).alloc (.map #[] 0)).alloc (.cells #[.map (some W.heap.size), .map (some (W.heap.size + 1))] 129)) := ((below_alloc' _ _).alloc (by simp) _).alloc (by simp <;> omega) _
  have hf1 : (((W.alloc (.map #[] 0)).alloc (.map #[] 0)).alloc (.cells #[.map (some W.heap.size), .map (some (W.heap.size + 1))] 129)).ownsMap Tryz.prog 9 (unitElem (H := Unit)) (W.heap.size + 1) 0 (.map []) := by
    have := (World.ownsMap_made (W.alloc (.map #[] 0)) Tryz.prog 9 (unitElem (H := Unit))).alloc (.cells #[.map (some W.heap.size), .map (some (W.heap.size + 1))] 129)
    simpa using this
  have ho1 : (((W.alloc (.map #[] 0)).alloc (.map #[] 0)).alloc (.cells #[.map (some W.heap.size), .map (some (W.heap.size + 1))] 129)).heap[W.heap.size]? = some (.map #[] 0) := by
    refine (Below.heap_alloc _ _ _ (by simp <;> omega)).trans ((Below.heap_alloc _ _ _ (by simp)).trans (World.alloc_heap_new W _))
  have hd1 : (((W.alloc (.map #[] 0)).alloc (.map #[] 0)).alloc (.cells #[.map (some W.heap.size), .map (some (W.heap.size + 1))] 129)).heap[W.heap.size + 1 + 1]? = some (.cells #[.map (some W.heap.size), .map (some (W.heap.size + 1))] 129 (0, 0)) := by
    have := World.alloc_heap_new ((W.alloc (.map #[] 0)).alloc (.map #[] 0)) (.cells #[.map (some W.heap.size), .map (some (W.heap.size + 1))] 129)
    simpa using this
  refine (look_lf _ _ _ b k s _ hd1 ho1 (by omega) hf1 (HL.out.below hb1 hbl) hsl).mono ?_
  rintro e w1 ⟨⟨v1, rfl⟩, nn, hown, hg⟩
  have hc1 : w1.cell? ⟨W.heap.size + 1 + 1, 1, none⟩ = some (.map (some (W.heap.size + 1))) := by
    have := (hg.block (W.heap.size + 1 + 1) (by simp) (by simp)).trans hd1
    simp [World.cell?, this]
  have hB1 : Below W.heap.size W w1 := hb1.grown hg (by simp; omega) (fun q hq => by cases hq; omega)
  clear hg hd1 ho1 hf1 hb1 HL
  go_wp2_with fail
  go_at_call 53
  refine (keys_any _ _).mono ?_
  rintro e w2 ⟨rfl, rfl⟩
  go_wp2_with fail
  go_at_call 52
  refine (sorted_any _ nn _ _ w1 hown (Nat.le_trans (lf_size k s) (by decide)) (Nat.le_trans (Nat.mul_le_mul_right _ (lf_size k s)) (by decide))).mono ?_
  rintro e w3 ⟨v3, ss, rfl, hp, hrow, _, hb3⟩
  go_wp2_with fail
  go_ret
  obtain ⟨hss, hms⟩ := lf_perm hp
  rw [hms, hss] at hrow
  exact ⟨_, rfl, ns_of_row hrow, (hB1.alloc hB1.size _).trans (hb3.mono (by simp; have := hB1.size; omega))⟩
end

section
open Go.RowKit Ex0 Go.Maps Go.Sort Go.Shelf
attribute [local go_sem] bt_size bt_list bt_toList

theorem newMeasurer_c (W : World) (p : Int) : Calls Tryz.prog 17 #[.int .i64 p] W fun e w' =>
    e = .returned (.pointer (some ⟨W.heap.size + 1, 0, none⟩)) ∧ w' = (W.alloc (.map #[] 0)).alloc (.cells #[.int .i64 p, .map (some W.heap.size), .slice none 0 0] 78) := by
  have hmm := @run_makeMap Tryz.prog
  go_enter Tryz.func17, Tryz.ntmps17
  go_wp2_with fail
  go_ret
  exact ⟨by simp, rfl⟩

set_option maxHeartbeats 1000000 in
theorem free_lf (mb kb b : Nat) (p k : Int) (s : List UInt8) (W : World) (hm : MzAt W mb kb p) (hp : 0 < p) (h : LfAt W b k s) (hsl : s.length ≤ maxLen) :
    Calls Tryz.prog 18 #[.pointer (some ⟨mb, 0, none⟩), .pointer (some ⟨b, 0, none⟩)] W fun e w' => ∃ v, e = .returned (.tuple #[v, .bool true]) ∧ NsV (Old w'.heap.size) w' v (lfList k s) ∧ Below W.heap.size W w' := by
  have HL := Lib.hid h
  have HM := Lib.hid hm
  clear hm h
  go_enter Tryz.func18, Tryz.ntmps18
  go_wp2_with fail
  go_at_call 19
  refine (measure_lf mb kb b p k s W HM.out hp HL.out).mono ?_
  rintro e w1 ⟨rfl, hb1⟩
  have HL1 := Lib.hid (HL.out.below hb1 HL.out.lt)
  have HB1 := Lib.hid hb1
  clear hb1
  go_wp2_with fail
  go_at_call 29
  refine (freeIn_lf b k s _ (HL1.out.below (below_alloc' _ _) HL1.out.lt) hsl).mono ?_
  rintro e w2 ⟨v2, rfl, hv, hb2⟩
  have HV := Lib.hid hv
  have HB2 := Lib.hid hb2
  clear hv hb2
  go_wp2_with fail
  go_ret2
  exact ⟨_, rfl, HV.out, (HB1.out.alloc HB1.out.size _).trans (HB2.out.mono (by simp; have := HB1.out.size; omega))⟩

set_option maxHeartbeats 1000000 in
theorem free_c (k : Int) (s : List UInt8) (nn op : Int) (an aa ab ac : Option Addr) (cn ca cb cc : Nat) (W : World) (hk : (k == 6) = false) (hsl : s.length ≤ maxLen) :
    Calls Tryz.prog 8 #[exV k s nn op (.slice an 0 cn) (.slice aa 0 ca) (.slice ab 0 cb) (.slice ac 0 cc)] W fun e w' => ∃ v, e = .returned v ∧ NsV (Old w'.heap.size) w' v (lfList k s) ∧ Below W.heap.size W w' := by
  unfold exV
  go_enter Tryz.func8, Tryz.ntmps8
  go_wp2_with fail
  go_at_call 17
  refine (newMeasurer_c _ _).mono ?_
  rintro e w1 ⟨rfl, rfl⟩
  go_wp2_with fail
  go_at_call 18
  obtain ⟨W1, hW1⟩ : ∃ W1, W1 = ((W.alloc (exBox k s nn op (.slice an 0 cn) (.slice aa 0 ca) (.slice ab 0 cb) (.slice ac 0 cc))).alloc (.map #[] 0)).alloc (.cells #[.int .i64 1048576, .map (some (W.heap.size + 1)), .slice none 0 0] 78) := ⟨_, rfl⟩
  have hbx : Below (W.heap.size + 1) (W.alloc (exBox k s nn op (.slice an 0 cn) (.slice aa 0 ca) (.slice ab 0 cb) (.slice ac 0 cc))) W1 := by
    subst hW1
    exact ((Below.refl _ _).alloc (by simp) _).alloc (by simp <;> omega) _
  have hb0 : Below W.heap.size W W1 := by
    subst hW1
    exact ((below_alloc' _ _).alloc (by simp) _).alloc (by simp <;> omega) _
  have hmz : MzAt W1 (W.heap.size + 1 + 1) (W.heap.size + 1) 1048576 := by
    subst hW1
    have := World.alloc_heap_new ((W.alloc (exBox k s nn op (.slice an 0 cn) (.slice aa 0 ca) (.slice ab 0 cb) (.slice ac 0 cc))).alloc (.map #[] 0)) (.cells #[.int .i64 1048576, .map (some (W.heap.size + 1)), .slice none 0 0] 78)
    unfold MzAt
    simpa using this
  obtain ⟨c0, c1, c2, c3, c4, c5, c6, c7⟩ := exBox_cell (Nat.lt_succ_self _) hbx
  have hlf : LfAt W1 W.heap.size k s := ⟨by have := hbx.size; simp at this; omega, c0, c1, ⟨_, _, c4⟩, ⟨_, _, c5⟩, ⟨_, _, c6⟩, ⟨_, _, c7⟩, hk⟩
  have hcon := free_lf (W.heap.size + 1 + 1) (W.heap.size + 1) W.heap.size 1048576 k s W1 hmz (by decide) hlf hsl
  rw [hW1] at hcon
  refine hcon.mono ?_
  rw [← hW1]
  clear hcon hlf c0 c1 c2 c3 c4 c5 c6 c7 hmz hbx hW1
  rintro e w2 ⟨v2, rfl, hv, hb2⟩
  have HV := Lib.hid hv
  have HB2 := Lib.hid (hb0.trans (hb2.mono hb0.size))
  clear hv hb2 hb0
  go_wp2_with fail
  go_ret
  exact ⟨_, rfl, HV.out, HB2.out⟩
end
end Go.Proofs.YtfcogjlojfcfkaaGreat
end
