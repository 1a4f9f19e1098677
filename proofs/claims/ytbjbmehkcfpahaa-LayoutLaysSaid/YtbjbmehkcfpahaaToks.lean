/- Contracts of spelt, word, operator, integer, literal and token: each answers what the plain lexer says, and what was there before stays. The string is no longer than 2^48 bytes less a few. -/
import Derived.Test.YtbjbmehkcfpahaaKinds
import Derived.Lib.BufferRead
namespace Go.Proofs.Ytbjbmehkcfpahaa
open Go.RowKit Lx
attribute [local go_sem] bt_size bt_get bt_list bt_toList bt_drop bt_take

def gotR (g : Got) : Ending := .returned (.tuple #[.agg #[.int .i64 g.kind, .string (bt g.text), .int .i64 g.n, .int .i64 0, .int .i64 0], .int .i64 (g.len : Int), .int .i64 g.err])

theorem bcell {W w1 : World} (hb : Below W.heap.size W w1) : (∀ b o, b < W.heap.size → w1.cell? ⟨b, o, none⟩ = W.cell? ⟨b, o, none⟩) ∧ (∀ b o, b < W.heap.size → w1.frozen? ⟨b, o, none⟩ = W.frozen? ⟨b, o, none⟩) :=
  ⟨fun b o h => hb.cell (p := ⟨b, o, none⟩) h, fun b o h => hb.frozen (p := ⟨b, o, none⟩) h⟩

/-- A token's five cells, set. -/
def set5 (w : World) (b : Nat) (k : Value) (t : Value) (n l c : Value) : World :=
  ((((w.setCell ⟨b, 0, none⟩ k).setCell ⟨b, 1, none⟩ t).setCell ⟨b, 2, none⟩ n).setCell ⟨b, 3, none⟩ l).setCell ⟨b, 4, none⟩ c

theorem below_set5 {B b : Nat} {w w1 : World} (h : Below B w w1) (hB : B ≤ b) (k t n l c : Value) : Below B w (set5 w1 b k t n l c) :=
  ((((h.setCell (p := ⟨b, 0, none⟩) hB k).setCell (p := ⟨b, 1, none⟩) hB t).setCell (p := ⟨b, 2, none⟩) hB n).setCell (p := ⟨b, 3, none⟩) hB l).setCell (p := ⟨b, 4, none⟩) hB c

theorem set5_size (w : World) (b : Nat) (k t n l c : Value) : (set5 w b k t n l c).heap.size = w.heap.size := by simp [set5]

theorem below_via {w w1 : World} {o : Obj} (hb : Below (w.alloc o).heap.size (w.alloc o) w1) : Below w.heap.size w w1 := (below_alloc w o).trans (hb.mono (by simp))

set_option maxHeartbeats 400000 in
set_option maxRecDepth 100000 in
theorem spelt_any (k : Int) (l : List UInt8) (w : World) (hlim : l.length ≤ 281474976710656) :
    Calls Try.prog 50 #[.int .i64 k, .string (bt l)] w fun e w' => e = gotR (speltG k l) ∧ Below w.heap.size w w' := by
  go_enter Try.func50, Try.ntmps50
  go_wp2_with fail
  refine (clone_any _ _ hlim).mono ?_
  rintro e w1 ⟨rfl, hb⟩
  obtain ⟨hc, hf⟩ := bcell hb
  have hz : w.heap.size < w1.heap.size := by have := hb.size; simp at this; omega
  go_wp2
  refine bodyPost_ret (v := .tuple #[.agg #[.int .i64 k, .string (bt l), .int .i64 0, .int .i64 0, .int .i64 0], .int .i64 (l.length : Int), .int .i64 0]) (by simp [results, go_sem, hc]) rfl ⟨rfl, ?_⟩
  exact below_set5 (below_via hb) (Nat.le_refl _) _ _ _ _ _

theorem tw_cons {p : UInt8 → Bool} {c : UInt8} (h : p c = true) (r : List UInt8) : (c :: r).takeWhile p = c :: r.takeWhile p := by simp [h]

set_option maxHeartbeats 400000 in
set_option maxRecDepth 100000 in
theorem word_any (c : UInt8) (r : List UInt8) (w : World) (hs : r.length + 1 ≤ 281474976710656) (hc0 : wordB c = true) :
    Calls Try.prog 44 #[.string (bt (c :: r))] w fun e w' => e = gotR (speltG (wordKindL ((c :: r).takeWhile wordB)) ((c :: r).takeWhile wordB)) ∧ Below w.heap.size w w' := by
  have hl := takeWhile_len wordB r
  have hs1 : (c :: r).length ≤ maxLen := by simp [maxLen]; omega
  have hs2 : (c :: r.takeWhile wordB).length ≤ 281474976710656 := by simp; omega
  rw [tw_cons hc0]
  have HT := Lib.hid (tw_cons hc0 r)
  clear hc0
  go_enter Try.func44, Try.ntmps44
  go_wp2_with fail
  refine (prefix_any _ _ enters_isWordByte isWordByte_any _ _ hs1).mono ?_
  rintro e w' ⟨rfl, rfl⟩
  rw [HT.out]
  go_wp2_with fail
  refine (wordKind_any _ _ _).mono ?_
  rintro e w1 ⟨rfl, hb1⟩
  go_wp2_with fail
  refine (spelt_any _ _ _ hs2).mono ?_
  rintro e w2 ⟨rfl, hb2⟩
  obtain ⟨hc, hf⟩ := bcell hb1
  obtain ⟨hc2, hf2⟩ := bcell hb2
  have hz : w.heap.size < w1.heap.size := by have := hb1.size; simp at this; omega
  have hz2 : w.heap.size < w2.heap.size := by have := hb2.size; omega
  unfold gotR
  go_wp2
  refine bodyPost_ret (v := .tuple #[.agg #[.int .i64 (wordKindL (c :: r.takeWhile wordB)), .string (bt (c :: r.takeWhile wordB)), .int .i64 0, .int .i64 0, .int .i64 0], .int .i64 ((c :: r.takeWhile wordB).length : Int), .int .i64 0]) (by simp [results, go_sem, hc, hc2, hz, speltG]) rfl ⟨rfl, ?_⟩
  exact below_set5 ((below_via hb1).trans (hb2.mono (by omega))) (Nat.le_refl _) _ _ _ _ _

set_option maxHeartbeats 400000 in
set_option maxRecDepth 100000 in
theorem operator_any (c : UInt8) (r : List UInt8) (w : World) (hs : r.length + 1 ≤ 281474976710656) (hc0 : symB c = true) :
    Calls Try.prog 48 #[.string (bt (c :: r))] w fun e w' => e = gotR (speltG (operKindL ((c :: r).takeWhile symB)) ((c :: r).takeWhile symB)) ∧ Below w.heap.size w w' := by
  have hl := takeWhile_len symB r
  have hs1 : (c :: r).length ≤ maxLen := by simp [maxLen]; omega
  have hs2 : (c :: r.takeWhile symB).length ≤ 281474976710656 := by simp; omega
  rw [tw_cons hc0]
  have HT := Lib.hid (tw_cons hc0 r)
  clear hc0
  go_enter Try.func48, Try.ntmps48
  go_wp2_with fail
  refine (prefix_any _ _ enters_isSymbol isSymbol_any _ _ hs1).mono ?_
  rintro e w' ⟨rfl, rfl⟩
  rw [HT.out]
  go_wp2_with fail
  refine (operatorKind_any _ _ _).mono ?_
  rintro e w1 ⟨rfl, hb1⟩
  go_wp2_with fail
  refine (spelt_any _ _ _ hs2).mono ?_
  rintro e w2 ⟨rfl, hb2⟩
  obtain ⟨hc, hf⟩ := bcell hb1
  obtain ⟨hc2, hf2⟩ := bcell hb2
  have hz : w.heap.size < w1.heap.size := by have := hb1.size; simp at this; omega
  have hz2 : w.heap.size < w2.heap.size := by have := hb2.size; omega
  unfold gotR
  go_wp2
  refine bodyPost_ret (v := .tuple #[.agg #[.int .i64 (operKindL (c :: r.takeWhile symB)), .string (bt (c :: r.takeWhile symB)), .int .i64 0, .int .i64 0, .int .i64 0], .int .i64 ((c :: r.takeWhile symB).length : Int), .int .i64 0]) (by simp [results, go_sem, hc, hc2, hz, speltG]) rfl ⟨rfl, ?_⟩
  exact below_set5 ((below_via hb1).trans (hb2.mono (by omega))) (Nat.le_refl _) _ _ _ _ _

set_option maxHeartbeats 400000 in
set_option maxRecDepth 100000 in
theorem integer_any (l : List UInt8) (w : World) (hs : l.length ≤ 281474976710656) :
    Calls Try.prog 46 #[.string (bt l)] w fun e w' => e = gotR (intG l) ∧ Below w.heap.size w w' := by
  have hl := takeWhile_len digB l
  have hs1 : l.length ≤ maxLen := by simp [maxLen]; omega
  have hs2 : (l.takeWhile digB).length ≤ 281474976710656 := by omega
  have hs3 : (l.takeWhile digB).length ≤ maxLen := by omega
  have HA := Lib.hid (all_takeWhile digB l)
  cases hv : valL 9223372036854775807 0 (l.takeWhile digB) with
  | none =>
    have HI := Lib.hid (show intG l = badG 12 by unfold intG; rw [hv])
    have HV := Lib.hid hv
    clear hv
    go_enter Try.func46, Try.ntmps46
    go_wp2_with fail
    refine (prefix_any _ _ enters_isDigit isDigit_any _ _ hs1).mono ?_
    rintro e w' ⟨rfl, rfl⟩
    go_wp2_with fail
    refine (value_any _ _ _ hs3 HA.out (by omega) (by omega)).mono ?_
    rintro e w' ⟨rfl, rfl⟩
    rw [HV.out]
    unfold valR
    go_wp2
    rw [HI.out]
    refine bodyPost_ret (v := .tuple #[.agg #[.int .i64 0, .string ⟨#[]⟩, .int .i64 0, .int .i64 0, .int .i64 0], .int .i64 0, .int .i64 12]) (by simp [results, go_sem]) rfl ⟨rfl, ?_⟩
    exact below_alloc _ _
  | some n =>
    have HI := Lib.hid (show intG l = { speltG 5 (l.takeWhile digB) with n := n } by unfold intG; rw [hv])
    have HV := Lib.hid hv
    clear hv
    go_enter Try.func46, Try.ntmps46
    go_wp2_with fail
    refine (prefix_any _ _ enters_isDigit isDigit_any _ _ hs1).mono ?_
    rintro e w' ⟨rfl, rfl⟩
    go_wp2_with fail
    refine (value_any _ _ _ hs3 HA.out (by omega) (by omega)).mono ?_
    rintro e w' ⟨rfl, rfl⟩
    rw [HV.out]
    unfold valR
    go_wp2_with fail
    refine (spelt_any _ _ _ hs2).mono ?_
    rintro e w1 ⟨rfl, hb1⟩
    obtain ⟨hc, hf⟩ := bcell hb1
    have hz : w.heap.size < w1.heap.size := by have := hb1.size; simp at this; omega
    unfold gotR
    go_wp2
    rw [HI.out]
    refine bodyPost_ret (v := .tuple #[.agg #[.int .i64 5, .string (bt (l.takeWhile digB)), .int .i64 n, .int .i64 0, .int .i64 0], .int .i64 ((l.takeWhile digB).length : Int), .int .i64 0]) (by simp [results, go_sem, hc, hz, speltG]) rfl ⟨rfl, ?_⟩
    exact (below_set5 (below_via hb1) (Nat.le_refl _) _ _ _ _ _).alloc (by rw [set5_size]; omega) _

theorem conv_own {w : World} {base : Nat} {v : Value} {bs : List UInt8} (h : w.ownsRow base 5 1 v bs.length (Lib.byteCells bs)) : (convert 83 9 v).run Try.prog w = .ok (.string (bt bs)) w := by
  have h8 : Try.prog.underlying 5 = some (.int .u8) := by kernel_rfl
  have h9 : Try.prog.underlying 9 = some .string := by kernel_rfl
  rcases h.2 with ⟨rfl, hn⟩ | ⟨g, cap, cur, rfl, _, hg, _, _, _, ht⟩
  · have : bs = [] := List.eq_nil_of_length_eq_zero hn
    subst this
    exact Lib.run_convert_nil_bytes w _ _ _ _ Try.under8s h8 h9
  · rw [Nat.mul_one] at ht
    exact run_convert_bytes_back w _ _ _ _ _ bs Try.under8s h8 h9 (Lib.bytes_of_row hg ht)

theorem escL_le (c : UInt8) (l : List UInt8) : (escL (c :: l)).2 ≤ l.length + 1 := by
  unfold escL
  simp only [List.drop_succ_cons, List.drop_zero]
  have := takeWhile_len digB l
  split
  · split
    · rename_i h
      simp at h
      obtain ⟨_, rfl⟩ := h
      simp
      split
      · simp
      · split
        · simp
        · split <;> simp
    · simp
  · split
    · simp
    · simp; omega

theorem charL_le (c : UInt8) (l : List UInt8) : (charL (c :: l)).2 ≤ l.length + 1 := by
  rw [charL_cons]
  split
  · exact escL_le c l
  · split <;> simp

/-- The cells of a token that is zero. -/
def zeroTok : Obj := .cells #[.int .i64 0, .string ⟨#[]⟩, .int .i64 0, .int .i64 0, .int .i64 0] 33

/-- What holds at the head of each round of literal's loop. -/
def LitRel (w : World) (l : List UInt8) (v i : Value) (wr : World) : Prop :=
  ∃ (k f : Nat) (bs : List UInt8), 1 ≤ k ∧ k ≤ l.length ∧ i = .int .i64 k ∧ bs.length ≤ k ∧ l.length ≤ f + k ∧ wr.ownsRow (w.heap.size + 1) 5 1 v bs.length (Lib.byteCells bs) ∧
    Below (w.heap.size + 1) (w.alloc zeroTok) wr ∧ litL l.length (l.drop 1) = (litL f (l.drop k)).map fun r => (bs ++ r.1, r.2 + (k - 1))

theorem lit_step {f : Nat} {l : List UInt8} {k : Nat} (h : k < l.length) (hq : l[k] ≠ 34) (hn : (charL (l.drop k)).2 ≠ 0) (bs : List UInt8) (hk : 1 ≤ k) :
    ((litL (f + 1) (l.drop k)).map fun r => (bs ++ r.1, r.2 + (k - 1))) =
      (litL f (l.drop (k + (charL (l.drop k)).2))).map fun r => ((bs ++ [(charL (l.drop k)).1]) ++ r.1, r.2 + (k + (charL (l.drop k)).2 - 1)) := by
  have hd := List.drop_eq_getElem_cons h
  rw [← List.drop_drop]
  generalize l.drop k = m at *
  subst hd
  rw [litL, if_neg hq, if_neg hn, Option.map_map]
  congr 1
  funext r
  simp
  omega

theorem lit_bad {f : Nat} {l : List UInt8} {k : Nat} (h : k < l.length) (hq : l[k] ≠ 34) (hn : (charL (l.drop k)).2 = 0) : litL (f + 1) (l.drop k) = none := by
  have hd := List.drop_eq_getElem_cons h
  generalize l.drop k = m at *
  subst hd
  rw [litL, if_neg hq, if_pos hn]

theorem lit_end {f : Nat} {l : List UInt8} {k : Nat} (h : k < l.length) (hq : l[k] = 34) : litL (f + 1) (l.drop k) = some ([], 1) := by
  have hd := List.drop_eq_getElem_cons h
  generalize l.drop k = m at *
  subst hd
  rw [litL, if_pos hq]

theorem lit_nil {f : Nat} {l : List UInt8} {k : Nat} (h : l.length ≤ k) : litL f (l.drop k) = none := by
  rw [List.drop_of_length_le h]
  cases f <;> rfl

theorem below_lit {w wr : World} (h : Below (w.heap.size + 1) (w.alloc zeroTok) wr) : Below w.heap.size w wr := (below_alloc w zeroTok).trans (h.mono (by omega))

theorem lit_rel {w wr w1 : World} {v v' : Value} {o : Obj} {bs : List UInt8} {b : UInt8} (hg : (wr.alloc o).grownBy w1 v.ownBlock) (hown' : w1.ownsRow (w.heap.size + 1) 5 1 v' (bs.length + 1) (Lib.byteCells bs ++ [.int .u8 (b.toNat : Int)]))
    (hown : wr.ownsRow (w.heap.size + 1) 5 1 v bs.length (Lib.byteCells bs)) (hb : Below (w.heap.size + 1) (w.alloc zeroTok) wr) :
    w1.ownsRow (w.heap.size + 1) 5 1 v' (bs ++ [b]).length (Lib.byteCells (bs ++ [b])) ∧ Below (w.heap.size + 1) (w.alloc zeroTok) w1 := by
  refine ⟨by rw [Lib.byteCells_append, List.length_append]; exact hown', ?_⟩
  have hz := hb.size
  have h1 := hb.alloc (by simpa using hz) o
  exact ⟨hg.os.trans h1.os, hg.tape.trans h1.tape, hg.output.trans h1.output, Nat.le_trans h1.size hg.size, fun i hi => by
    have hi2 : i < (wr.alloc o).heap.size := by simp at hz ⊢; omega
    rw [hg.block i hi2 (fun e => by have := (hown.lt i e.symm).1; omega)]
    exact h1.block i hi⟩

set_option maxHeartbeats 800000 in
set_option maxRecDepth 100000 in
theorem literal_any (c0 : UInt8) (l : List UInt8) (w : World) (hs : l.length + 1 ≤ 16384) :
    Calls Try.prog 51 #[.string (bt (c0 :: l))] w fun e w' => e = gotR (litG (c0 :: l)) ∧ Below w.heap.size w w' := by
  obtain ⟨L, hL⟩ : ∃ L, L = c0 :: l := ⟨_, rfl⟩
  rw [← hL]
  have hs1 : L.length ≤ 16384 := by rw [hL]; simpa using hs
  have hs0 : 1 ≤ L.length := by rw [hL]; simp
  clear hL hs
  obtain ⟨i0, hi, hz0, hz1, hz2⟩ := info_parts Try.info8
  go_enter Try.func51, Try.ntmps51
  go_wp2
  go_loopw [5, 6] (fun v i wr => LitRel w L v i wr) (fun _ i _ => L.length - (intOf i).toNat)
  case atStart => exact ⟨1, L.length, [], by omega, by omega, rfl, by simp, by omega, World.ownsRow_nil _ _ _ _, Below.refl _ _, by simp⟩
  case round =>
    obtain ⟨k, f, bs, hk1, hk, rfl, hbl, hf, hown, hbe, hall⟩ := hrel
    have H := Lib.hid hall
    clear hall
    have hbz : w.heap.size < wr.heap.size := by have := hbe.size; simp at this; omega
    have hconv := conv_own hown
    have HO := Lib.hid hown
    have HB := Lib.hid hbe
    unfold zeroTok at hbe
    obtain ⟨hc, hfz⟩ := bcell (W := w.alloc (.cells #[.int .i64 0, .string ⟨#[]⟩, .int .i64 0, .int .i64 0, .int .i64 0] 33)) (by simpa using hbe)
    clear hown hbe
    by_cases hlt : k < L.length
    · obtain ⟨f, rfl⟩ : ∃ f', f = f' + 1 := ⟨f - 1, by omega⟩
      by_cases hq : L[k] = 34
      · have gq : ((L[k].toNat : Int) != 34) = false := by rw [hq]; rfl
        have gk : ((k : Int) == (L.length : Int)) = false := by simp; omega
        have HQ := Lib.hid hq
        clear hq
        go_wp2
        have hg : litG L = ⟨6, bs, 0, k + 1, 0⟩ := by
          unfold litG
          rw [H.out, lit_end hlt HQ.out]
          simp
          omega
        rw [hg]
        refine bodyPost_ret (v := .tuple #[.agg #[.int .i64 6, .string (bt bs), .int .i64 0, .int .i64 0, .int .i64 0], .int .i64 ((k : Int) + 1), .int .i64 0]) (by simp [results, go_sem, hc]) rfl ⟨rfl, ?_⟩
        exact below_set5 (below_lit HB.out) (Nat.le_refl _) _ _ _ _ _
      · have gq : ((L[k].toNat : Int) != 34) = true := by
          have := byte_ne hq
          simpa using this
        have HQ := Lib.hid hq
        clear hq
        have hdr := List.drop_eq_getElem_cons hlt
        have HD := Lib.hid hdr
        clear hdr
        go_wp2_with fail
        rw [HD.out]
        refine (character_any _ _ _ ?cl).mono ?_
        case cl => simp [maxLen]; omega
        rintro e w' ⟨rfl, rfl⟩
        rw [← HD.out]
        unfold charR
        by_cases hn : (charL (L.drop k)).2 = 0
        · have gn : (((charL (L.drop k)).2 : Int) == 0) = true := by simp [hn]
          have HN := Lib.hid hn
          clear hn
          go_wp2
          have hg : litG L = badG 13 := by
            unfold litG
            rw [H.out, lit_bad hlt HQ.out HN.out]
            rfl
          rw [hg]
          refine bodyPost_ret (v := .tuple #[.agg #[.int .i64 0, .string ⟨#[]⟩, .int .i64 0, .int .i64 0, .int .i64 0], .int .i64 0, .int .i64 13]) (by simp [results, go_sem, hc]) rfl ⟨rfl, ?_⟩
          exact below_set5 (below_lit HB.out) (Nat.le_refl _) _ _ _ _ _
        · have gn : (((charL (L.drop k)).2 : Int) == 0) = false := by simp [hn]
          have HN := Lib.hid hn
          have hcl : k + (charL (L.drop k)).2 ≤ L.length := by
            have := charL_le L[k] (L.drop (k + 1))
            rw [← HD.out] at this
            simp at this
            omega
          clear hn hc hfz hconv
          go_wp2_with (at_builtin; refine wpList_append_own _ rfl _ _ 83 rfl (w.heap.size + 1) 5 i0 (.int .u8 0) 1 1 Try.under8s hi hz0 hz1 hz2 rfl (by decide) _ _ _ rfl (HO.out.alloc _) ⟨wr.heap.size, 0, none⟩ 1 1 [.int .u8 ((charL (L.drop k)).1.toNat : Int)] rfl rfl ?c1 ?c2 ?c3 ?c4 ?c5 ?_)
          case c1 =>
            intro j u hj
            match j, hj with
            | 0, hj => simp at hj; subst hj; simp [Addr.add]
          case c2 => intro u hu; simp at hu; subst hu; rfl
          case c3 => unfold maxLen; omega
          case c4 => omega
          case c5 => simp; omega
          intro v' w1 hown' hgrow _
          have R := lit_rel (w := w) hgrow hown' HO.out HB.out
          clear hown' hgrow
          go_wp2
          go_roundw
          case rel => exact ⟨k + (charL (L.drop k)).2, f, bs ++ [(charL (L.drop k)).1], by omega, hcl, by go_num, by have := HN.out; simp; omega, by have := HN.out; omega, R.1, R.2, by rw [H.out, lit_step hlt HQ.out HN.out bs hk1]⟩
          case measure => have := HN.out; simp [intOf]; omega
    · have gk : ((k : Int) == (L.length : Int)) = true := by simp; omega
      go_wp2
      have hg : litG L = badG 13 := by
        unfold litG
        rw [H.out, lit_nil (by omega)]
        rfl
      rw [hg]
      refine bodyPost_ret (v := .tuple #[.agg #[.int .i64 0, .string ⟨#[]⟩, .int .i64 0, .int .i64 0, .int .i64 0], .int .i64 0, .int .i64 13]) (by simp [results, go_sem, hc]) rfl ⟨rfl, ?_⟩
      exact below_set5 (below_lit HB.out) (Nat.le_refl _) _ _ _ _ _
end Go.Proofs.Ytbjbmehkcfpahaa
