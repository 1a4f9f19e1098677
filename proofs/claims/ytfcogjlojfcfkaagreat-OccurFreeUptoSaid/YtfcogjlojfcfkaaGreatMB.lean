/- The counter of package occur in memory; what a call that counts may turn. No condition. -/
import Derived.Test.YtfcogjlojfcfkaaGreatMA
import Derived.RangeFuncNested
import Derived.RangeFuncCalls
section
namespace Go.Proofs.YtfcogjlojfcfkaaGreat
open Go.RowKit Ex0

/-- In block cb lies a counter of the name x that has p steps left, and whose notes, none, are in block kb. -/
def Ctr (w : World) (cb kb : Nat) (x : List UInt8) (p : Int) : Prop :=
  w.heap[cb]? = some (.cells #[.string (bt x), .int .i64 p, .map (some kb), .bool false] 47 (0, 0)) ∧ w.heap[kb]? = some (.map #[] 0)
theorem ctr_cell {w : World} {cb kb : Nat} {x : List UInt8} {p : Int} (h : Ctr w cb kb x p) :
    w.cell? ⟨cb, 0, none⟩ = some (.string (bt x)) ∧ w.cell? ⟨cb, 1, none⟩ = some (.int .i64 p) ∧ w.cell? ⟨cb, 2, none⟩ = some (.map (some kb)) ∧ w.cell? ⟨cb, 3, none⟩ = some (.bool false) ∧ w.frozen? ⟨cb, 1, none⟩ = false := by
  obtain ⟨h, _⟩ := h
  exact ⟨by simp [World.cell?, h], by simp [World.cell?, h], by simp [World.cell?, h], by simp [World.cell?, h], by simp [World.frozen?, h]⟩
theorem ctr_set {w : World} {cb kb : Nat} {x : List UInt8} {p : Int} (h : Ctr w cb kb x p) (p' : Int) : Ctr (w.setCell ⟨cb, 1, none⟩ (.int .i64 p')) cb kb x p' := by
  obtain ⟨h, hk⟩ := h
  have hne : kb ≠ cb := by rintro rfl; rw [h] at hk; cases hk
  refine ⟨?_, (Below.heap_setCell w ⟨cb, 1, none⟩ _ kb hne).trans hk⟩
  obtain ⟨hlt, he⟩ := Array.getElem?_eq_some_iff.1 h
  show (w.heap.modify cb _)[cb]? = _
  rw [Array.getElem?_eq_getElem (by rw [Array.size_modify]; exact hlt), Array.getElem_modify_self, he]
  rfl
theorem ctr_lt {w : World} {cb kb : Nat} {x : List UInt8} {p : Int} (h : Ctr w cb kb x p) : cb < w.heap.size ∧ kb < w.heap.size ∧ kb ≠ cb :=
  ⟨(Array.getElem?_eq_some_iff.1 h.1).1, (Array.getElem?_eq_some_iff.1 h.2).1, by rintro rfl; have := h.1; rw [h.2] at this; cases this⟩

/-- What a call that counts may turn: new blocks, and the counter's cells. -/
structure Ct (cb : Nat) (w w' : World) : Prop where
  g : w.grownBy w' (some cb)
  k : KeepsOthers w w'
theorem Ct.refl (cb : Nat) (w : World) : Ct cb w w := ⟨⟨rfl, rfl, rfl, Nat.le_refl _, fun _ _ _ => rfl⟩, .refl w⟩
theorem Ct.trans {cb : Nat} {a b c : World} (h : Ct cb a b) (k : Ct cb b c) : Ct cb a c :=
  ⟨⟨k.g.os.trans h.g.os, k.g.tape.trans h.g.tape, k.g.output.trans h.g.output, Nat.le_trans h.g.size k.g.size, fun i hi hn => (k.g.block i (Nat.lt_of_lt_of_le hi h.g.size) hn).trans (h.g.block i hi hn)⟩, h.k.trans k.k⟩
theorem Ct.alloc (cb : Nat) (w : World) (o : Obj) : Ct cb w (w.alloc o) := ⟨⟨rfl, rfl, rfl, by simp, fun i hi _ => Below.heap_alloc _ _ _ hi⟩, .alloc w o⟩
theorem Ct.drew (cb : Nat) (w : World) : Ct cb w w.drew := ⟨⟨rfl, rfl, rfl, Nat.le_refl _, fun _ _ _ => rfl⟩, .drew w⟩
/-- A store into the counter, or into a block that was not there. -/
theorem Ct.set {cb : Nat} {w w' : World} (h : Ct cb w w') {b o : Nat} (hb : b = cb ∨ w.heap.size ≤ b) (v : Value) : Ct cb w (w'.setCell ⟨b, o, none⟩ v) :=
  ⟨⟨h.g.os, h.g.tape, h.g.output, Nat.le_trans h.g.size (by simp [World.setCell]), fun i hi hn => by
    have hne : i ≠ b := by rcases hb with rfl | hb; exact (fun e => hn (by rw [e])); omega
    exact (Below.heap_setCell w' ⟨b, o, none⟩ v i hne).trans (h.g.block i hi hn)⟩, h.k.trans (.setCell w' _ v)⟩
theorem below_same {B : Nat} {w a b : World} (h : Below B w a) (e1 : b.heap = a.heap) (e2 : b.os = a.os) (e3 : b.tape = a.tape) (e4 : b.output = a.output) : Below B w b :=
  ⟨e2.trans h.os, e3.trans h.tape, e4.trans h.output, by rw [e1]; exact h.size, fun k hk => by rw [e1]; exact h.block k hk⟩
/-- What makes new blocks alone. -/
theorem Ct.of_below {cb : Nat} {w w' : World} (h : Below w.heap.size w w') : Ct cb w w' :=
  ⟨⟨h.os, h.tape, h.output, h.size, fun i hi _ => h.block i hi⟩, ⟨h.size, fun i o hi _ => (h.block i (Array.getElem?_eq_some_iff.1 hi).1).trans hi⟩⟩
/-- What turns no block changes nothing. -/
theorem Ct.same {cb : Nat} {w a b : World} (h : Ct cb w a) (e1 : b.heap = a.heap) (e2 : b.os = a.os) (e3 : b.tape = a.tape) (e4 : b.output = a.output) : Ct cb w b :=
  ⟨⟨e2.trans h.g.os, e3.trans h.g.tape, e4.trans h.g.output, by rw [e1]; exact h.g.size, fun i hi hn => by rw [e1]; exact h.g.block i hi hn⟩, ⟨by rw [e1]; exact h.k.size, fun i o hi ho => by rw [e1]; exact h.k.same i o hi ho⟩⟩
theorem Ct.below {cb M : Nat} {w w' : World} (h : Ct cb w w') (hM : M ≤ cb) (hw : M ≤ w.heap.size) : Below M w w' :=
  (Below.refl M w).grown h.g hw (fun k e => by cases e; exact hM)
theorem Ct.size {cb : Nat} {w w' : World} (h : Ct cb w w') : w.heap.size ≤ w'.heap.size := h.g.size
/-- A block that is not the counter's lies as it lay. -/
theorem Ct.obj {cb b : Nat} {w w' : World} (h : Ct cb w w') {o : Obj} (hne : b ≠ cb) (hb : w.heap[b]? = some o) : w'.heap[b]? = some o :=
  (h.g.block b (Array.getElem?_eq_some_iff.1 hb).1 (fun e => hne (by cases e; rfl))).trans hb
theorem Ct.cell {cb b o : Nat} {w w' : World} (h : Ct cb w w') {v : Value} (hne : b ≠ cb) (hb : w.cell? ⟨b, o, none⟩ = some v) : w'.cell? ⟨b, o, none⟩ = some v :=
  h.g.cell hb (fun e => hne (by cases e; rfl))
theorem Ctr.alloc {w : World} {cb kb : Nat} {x : List UInt8} {p : Int} (h : Ctr w cb kb x p) (o : Obj) : Ctr (w.alloc o) cb kb x p :=
  ⟨(Below.heap_alloc w o cb (ctr_lt h).1).trans h.1, (Below.heap_alloc w o kb (ctr_lt h).2.1).trans h.2⟩
theorem Ctr.drew {w : World} {cb kb : Nat} {x : List UInt8} {p : Int} (h : Ctr w cb kb x p) : Ctr w.drew cb kb x p := h
theorem Ctr.other {w : World} {cb kb : Nat} {x : List UInt8} {p : Int} (h : Ctr w cb kb x p) {b o : Nat} (hb : b ≠ cb ∧ b ≠ kb) (v : Value) : Ctr (w.setCell ⟨b, o, none⟩ v) cb kb x p :=
  ⟨(Below.heap_setCell w ⟨b, o, none⟩ v cb (Ne.symm hb.1)).trans h.1, (Below.heap_setCell w ⟨b, o, none⟩ v kb (Ne.symm hb.2)).trans h.2⟩
theorem keep_ct {cb M : Nat} {w w' : World} (h : Ct cb w w') (hM : M ≤ cb) (hw : M ≤ w.heap.size) : Keep (Old M) (Old M) w w' := keep_below (h.below hM hw) fun _ h => h
end Go.Proofs.YtfcogjlojfcfkaaGreat
end

section
namespace Go.Proofs.YtfcogjlojfcfkaaGreat
open Go.RowKit Ex0
attribute [local go_sem] bt_size bt_list bt_toList

set_option maxHeartbeats 1000000 in
theorem index_any (v : Value) (ns : List (List UInt8)) (x : List UInt8) (w : World) (M : Nat) (hl : ns.length ≤ 1048576) (hv : NsV (Old M) w v ns) :
    Calls Tryz.prog 59 #[v, .string (bt x)] w fun e w' => (∃ i : Int, e = .returned (.int .i64 i) ∧ (0 ≤ i ↔ x ∈ ns)) ∧ w = w' := by
  obtain ⟨a, c, rfl⟩ := hv.slice
  have HV := Lib.hid hv
  clear hv
  go_enter Tryz.func59, Tryz.ntmps59
  go_wp2_with fail
  go_loop [8] (fun i => ∃ k : Nat, k ≤ ns.length ∧ i = .int .i64 k ∧ ∀ j (h : j < k) (h' : j < ns.length), ns[j] ≠ x) (fun i => ns.length - (intOf i).toNat)
  case atStart => exact ⟨0, Nat.zero_le _, rfl, fun j h => by omega⟩
  case round =>
    obtain ⟨k, hk, rfl, hno⟩ := hrel
    have HN := Lib.hid hno
    clear hno
    by_cases hlt : k < ns.length
    · rcases HV.out with ⟨h, _⟩ | ⟨_, b, o, cp, he, hb, hlc, hcm, hat⟩
      · subst h; simp at hlt
      simp only [Value.slice.injEq, true_and] at he
      obtain ⟨rfl, rfl⟩ := he
      have h0 := hat k hlt
      have HAt := Lib.hid hat
      clear hat hb
      unfold maxLen at hcm
      obtain ⟨y, hy⟩ : ∃ y, ns[k] = y := ⟨_, rfl⟩
      rw [hy] at h0
      have HY := Lib.hid hy
      clear hy
      by_cases hyx : x = y
      · subst hyx
        have HM := Lib.hid (show x ∈ ns from HY.out ▸ List.getElem_mem hlt)
        go_wp2_with fail
        go_ret
        exact ⟨⟨_, rfl, by simp [HM.out]⟩, rfl⟩
      · have hbx : (x == y) = false := by simpa using hyx
        have HX := Lib.hid hyx
        clear hyx
        go_wp2_with fail
        go_round
        case rel => exact ⟨k + 1, by omega, by go_num, fun j h h' => by
          by_cases hj : j = k
          · subst hj; rw [HY.out]; exact fun e => HX.out e.symm
          · exact HN.out j (by omega) h'⟩
        case measure => simp [intOf]; omega
    · have HM := Lib.hid (show ¬ x ∈ ns from fun h => by
        obtain ⟨j, hj, e⟩ := List.getElem_of_mem h
        exact HN.out j (by omega) hj e)
      go_wp2_with fail
      go_ret
      exact ⟨⟨_, rfl, by simp [HM.out]⟩, rfl⟩

theorem contains_any (v : Value) (ns : List (List UInt8)) (x : List UInt8) (w : World) (M : Nat) (hl : ns.length ≤ 1048576) (hv : NsV (Old M) w v ns) :
    Calls Tryz.prog 35 #[v, .string (bt x)] w fun e w' => e = .returned (.bool (decide (x ∈ ns))) ∧ w = w' := by
  obtain ⟨a, c, rfl⟩ := hv.slice
  have HV := Lib.hid hv
  clear hv
  go_enter Tryz.func35, Tryz.ntmps35
  go_wp2_with fail
  refine (index_any _ ns x _ M hl HV.out).mono ?_
  rintro e w2 ⟨⟨i, rfl, hi⟩, rfl⟩
  have HI := Lib.hid hi
  clear hi
  go_wp2_with fail
  go_ret
  exact ⟨by rw [decide_eq_decide.2 HI.out]; rfl, rfl⟩

set_option maxHeartbeats 1000000 in
theorem among_any (cb kb : Nat) (v : Value) (ns : List (List UInt8)) (x : List UInt8) (p : Int) (w : World) (M : Nat) (hl : ns.length ≤ 1048576) (hv : NsV (Old M) w v ns) (hM : M ≤ cb) (hMw : M ≤ w.heap.size) (hc : Ctr w cb kb x p)
    (hp : 0 ≤ p ∧ p ≤ 1048576) :
    Calls Tryz.prog 49 #[.pointer (some ⟨cb, 0, none⟩), v] w fun e w' => e = .returned (.bool (decide (x ∈ ns))) ∧ Ct cb w w' ∧ Ctr w' cb kb x (p - ns.length) := by
  obtain ⟨a, c, rfl⟩ := hv.slice
  obtain ⟨c0, c1, c2, c3, f1⟩ := ctr_cell hc
  have HV := Lib.hid hv
  have HC := Lib.hid hc
  have hp0 := hp.1
  have hp1 := hp.2
  clear hv hc hp
  have HS := Lib.hid (ctr_set HC.out (p - ns.length))
  obtain ⟨d0, _⟩ := ctr_cell HS.out
  have HCt := Lib.hid ((Ct.refl cb w).set (b := cb) (o := 1) (.inl rfl) (.int .i64 (p - ns.length)))
  go_enter Tryz.func49, Tryz.ntmps49
  go_wp2_with fail
  refine (contains_any _ ns x _ M hl (HV.out.keep (keep_ct HCt.out hM hMw))).mono ?_
  rintro e w2 ⟨rfl, rfl⟩
  go_wp2_with fail
  go_ret
  exact ⟨rfl, HCt.out, HS.out⟩
end Go.Proofs.YtfcogjlojfcfkaaGreat
end
