/- The contract of layout.Lay: for any tokens it answers what the plain rule says, in memory of its own, and what was there before stays. No condition but a bound on their number. -/
import Derived.Test.YtbjbmehkcfpahaaLaySplit
import Derived.Deep.Onto
namespace Go.Proofs.Ytbjbmehkcfpahaa
open Go.RowKit Lx
attribute [local go_sem] bt_size bt_get bt_list bt_toList bt_drop bt_take
attribute [local go_sem ↓] Go.wp_at_zero Go.wp_at_succ

theorem tok_len {t : Rt} {first opened : Bool} {rs r : List En} {o : List Rt} (h : tokL t first opened rs = some (r, o)) : r.length + o.length ≤ rs.length + 6 := by
  cases hc : (opened && curB t) with
  | true =>
    rw [tokL, if_pos hc] at h
    simp at h
    obtain ⟨rfl, rfl⟩ := h
    simp
  | false =>
    rw [tokL_eq t first opened rs hc] at h
    have hb := beg_len t opened rs
    revert h hb
    generalize begL t opened rs = b
    intro h hb
    cases hs : secL t first b with
    | none => rw [hs] at h; cases h
    | some y =>
      obtain ⟨r2, o2⟩ := y
      rw [hs] at h
      simp at h
      obtain ⟨rfl, rfl⟩ := h
      have h2 := sec_len hs
      have h3 := end_len t r2
      unfold mrkSt
      split <;> simp <;> omega
theorem go_len : ∀ (ts : List Rt) (prev : Option Rt) (rs r : List En) (o : List Rt), goL prev ts rs = .ok (r, o) → r.length + o.length ≤ rs.length + 6 * ts.length
  | [], _, rs, r, o, h => by
    simp [goL] at h
    obtain ⟨rfl, rfl⟩ := h
    simp
  | t :: ts, prev, rs, r, o, h => by
    rw [goL] at h
    split at h
    · cases h
    · rename_i r1 o1 h1
      split at h
      · cases h
      · rename_i r2 o2 h2
        simp at h
        obtain ⟨rfl, rfl⟩ := h
        have a := tok_len h1
        have b := go_len ts _ _ _ _ h2
        simp
        omega

/-- What Lay leaves. -/
def LayPost (w : World) (ts : List Rt) (e : Ending) (w' : World) : Prop :=
  match layL ts with
  | .error t => e = .returned (.tuple #[.slice none 0 0, dgV t.line t.col 20]) ∧ Below w.heap.size w w'
  | .ok o => ∃ v, e = .returned (.tuple #[v, dgV 0 0 0]) ∧ w'.ownsRow w.heap.size 33 5 v o.length (rtsCells o) ∧ Below w.heap.size w w'

def zeroDg : Obj := .cells #[.string ⟨#[]⟩, .int .i64 0, .int .i64 0, .int .i64 0] 25

/-- What has been done before a token: which input tokens are left, and that the whole comes to what is done with them. -/
def layRest (prev : Option Rt) (is : List Rt) (e : Rt) (rs : List En) (out : List Rt) : Except Rt (List Rt) :=
  match goL prev is rs with
  | .error t => .error t
  | .ok (r, o) => match finL e (openedB (match is.getLast? with | none => prev | some t => some t)) r with
    | none => .error e
    | some o' => .ok (out ++ o ++ o')
theorem layL_rest (ts : List Rt) : layL ts = layRest none (splitL none ts).1 (splitL none ts).2 [] [] := by
  unfold layL layRest
  have : (match (splitL none ts).1.getLast? with | none => none | some t => some t) = (splitL none ts).1.getLast? := by cases (splitL none ts).1.getLast? <;> rfl
  rw [this]
  cases goL none (splitL none ts).1 [] with
  | error t => rfl
  | ok x =>
    obtain ⟨r, o⟩ := x
    simp only [List.nil_append]
    cases finL (splitL none ts).2 (openedB (splitL none ts).1.getLast?) r <;> rfl
theorem rest_cons (prev : Option Rt) (t : Rt) (is : List Rt) (e : Rt) (rs : List En) (out : List Rt) : layRest prev (t :: is) e rs out = match tokL t (firstB prev t) (openedB prev) rs with
    | none => .error t
    | some (r, o) => layRest (some t) is e r (out ++ o) := by
  unfold layRest
  rw [goL]
  cases tokL t (firstB prev t) (openedB prev) rs with
  | none => rfl
  | some x =>
    obtain ⟨r, o⟩ := x
    simp only
    have hl : (match (t :: is).getLast? with | none => prev | some t => some t) = (match is.getLast? with | none => some t | some t => some t) := by
      cases is with
      | nil => rfl
      | cons a l =>
        obtain ⟨z, hz⟩ : ∃ z, (a :: l).getLast? = some z := ⟨(a :: l).getLast (by simp), List.getLast?_eq_some_getLast _⟩
        simp [List.getLast?_cons_cons, hz]
    rw [hl]
    cases goL (some t) is r with
    | error t => rfl
    | ok y => obtain ⟨r', o'⟩ := y; simp

def prevT (is : List Rt) (k : Nat) : Option Rt := match k with
  | 0 => none
  | j + 1 => is[j]?
theorem prev_succ (is : List Rt) (k : Nat) (h : k < is.length) : prevT is (k + 1) = some is[k] := by simp [prevT, h]

/-- Nothing below the object has turned. -/
theorem Step.low {g : Nat} {s : St} {w w' : World} (h : Step ⟨g, .slice none 0 0, .slice none 0 0, .slice none 0 0⟩ s w w') {i : Nat} (hi : i < w.heap.size) (hg : i ≠ g) : w'.heap[i]? = w.heap[i]? ∧ ¬ s.own i :=
  h.block i hi (by rintro (e | e | e | e) <;> first | exact hg e | cases e)

/-- At the head of each round of Lay's loop. -/
def LoopRel (ts is : List Rt) (e : Rt) (_E G : Nat) (W : World) (o i : Value) (wr : World) : Prop :=
  ∃ (k : Nat) (s : St) (rs : List En) (out : List Rt), k ≤ is.length ∧ i = .int .i64 k ∧ o = .bool (openedB (prevT is k)) ∧ LayAt wr s rs out ∧ Step ⟨G, .slice none 0 0, .slice none 0 0, .slice none 0 0⟩ s W wr ∧
    layL ts = layRest (prevT is k) (is.drop k) e rs out ∧ rs.length + out.length ≤ 6 * k

theorem layAt_new (w : World) : LayAt (w.alloc (.cells #[.slice none 0 0, .slice none 0 0, .slice none 0 0] 63)) ⟨w.heap.size, .slice none 0 0, .slice none 0 0, .slice none 0 0⟩ [] [] :=
  ⟨heap_alloc_new w _, World.ownsRow_nil _ _ _ _, World.ownsRow_nil _ _ _ _, World.ownsRow_nil _ _ _ _⟩

theorem split_in (ts : List Rt) : ∀ (last : Option Rt) (i : Nat) (t : Rt), (splitL last ts).1[i]? = some t → ts[i]? = some t := by
  induction ts with
  | nil => intro last i t h; simp [splitL] at h
  | cons x ts ih =>
    intro last i t h
    rw [splitL] at h
    split at h
    · simp at h
    · cases i with
      | zero => simpa using h
      | succ i => simp at h ⊢; exact ih _ _ _ h
theorem split_len (ts : List Rt) : ∀ (last : Option Rt), (splitL last ts).1.length ≤ ts.length := by
  induction ts with
  | nil => intro last; simp [splitL]
  | cons x ts ih =>
    intro last
    rw [splitL]
    split
    · simp
    · have := ih (some x)
      simp
      omega

set_option maxHeartbeats 8000000 in
set_option maxRecDepth 100000 in
theorem lay_any (w : World) (b off cap : Nat) (ts : List Rt) (h : RtAt w b off ts) (hb : b < w.heap.size) (hc : ts.length ≤ cap) (hm : cap ≤ maxLen) (hn : ts.length ≤ 1000000) :
    Calls Try.prog 13 #[.slice (some ⟨b, off, none⟩) ts.length cap] w fun e w' => LayPost w ts e w' := by
  have HT := Lib.hid h
  clear h
  go_enter Try.func13, Try.ntmps13
  go_wp2_with fail
  refine (split_any (w.alloc zeroDg) b off cap ts (HT.out.below (below_alloc _ _) hb) (by simp; omega) hc hm).mono ?_
  rintro e w1 ⟨rfl, hb1⟩
  have his := split_in ts none
  have hil := split_len ts none
  have HLy := Lib.hid (layL_rest ts)
  revert his hil HLy
  generalize splitL none ts = sp
  obtain ⟨is, en⟩ := sp
  intro his hil HLy
  dsimp only at his hil ⊢
  have HR1 := Lib.hid (show RtAt w1 b off is from fun i t hi => ((HT.out.below (below_alloc w zeroDg) hb).below hb1 (by simp; omega)) i t (his i t hi))
  have hz1 : w.heap.size < w1.heap.size := by have := hb1.size; simp at this; omega
  have HD1 := Lib.hid (show w1.heap[w.heap.size]? = some zeroDg from (hb1.block _ (by simp)).trans (heap_alloc_new w zeroDg))
  have HB1 := Lib.hid (blw2 (below_alloc w zeroDg) hb1)
  clear hb1 his HT
  unfold tokV
  go_wp2
  obtain ⟨W, hW⟩ : ∃ W, W = (w1.alloc (boxT en)).alloc (.cells #[.slice none 0 0, .slice none 0 0, .slice none 0 0] 63) := ⟨_, rfl⟩
  have hzW : W.heap.size = w1.heap.size + 2 := by rw [hW]; simp
  have hlow : ∀ i, i < w1.heap.size → W.heap[i]? = w1.heap[i]? := fun i hi => by rw [hW, Below.heap_alloc _ _ _ (by simp; omega), Below.heap_alloc _ _ _ hi]
  have HLow := Lib.hid hlow
  have HLW := Lib.hid (show LayAt W ⟨w1.heap.size + 1, .slice none 0 0, .slice none 0 0, .slice none 0 0⟩ [] [] by
    have := layAt_new (w1.alloc (boxT en))
    rw [show (w1.alloc (boxT en)).heap.size = w1.heap.size + 1 from by simp] at this
    rw [hW]; exact this)
  have HEn := Lib.hid (show BoxAt W w1.heap.size en by rw [hW]; exact (boxAt_new w1 en).below (below_alloc _ _) (by simp))
  have HBW := Lib.hid (show Below w.heap.size w W by rw [hW]; exact (HB1.out.alloc HB1.out.size _).alloc (by simp; omega) _)
  clear hlow
  have hW' : (w1.alloc (.cells #[.int .i64 en.kind, .string (bt en.text), .int .i64 en.n, .int .i64 en.line, .int .i64 en.col] 33)).alloc (.cells #[.slice none 0 0, .slice none 0 0, .slice none 0 0] 63) = W := hW.symm
  rw [hW']
  clear hW hW'
  have hg1 : w1.heap.size + 1 < W.heap.size := by omega
  go_loopw [7, 18] (fun o i wr => LoopRel ts is en w1.heap.size (w1.heap.size + 1) W o i wr) (fun _ i _ => is.length - (intOf i).toNat)
  case atStart => exact ⟨0, _, [], [], Nat.zero_le _, rfl, rfl, HLW.out, Step.refl _ _, HLy.out, by simp⟩
  case round =>
    obtain ⟨k, s, rs, out, hk, rfl, rfl, hl, hs, hly, hbd⟩ := hrel
    have hzr : W.heap.size ≤ wr.heap.size := hs.size
    have hDg : wr.heap[w.heap.size]? = some zeroDg := ((hs.low (by omega) (by omega)).1.trans (HLow.out _ hz1)).trans HD1.out
    have HBr := Lib.hid (show Below w.heap.size w wr from ⟨hs.os.trans HBW.out.os, hs.tape.trans HBW.out.tape, hs.output.trans HBW.out.output, Nat.le_trans HBW.out.size hs.size, fun i hi => (hs.low (by omega) (by omega)).1.trans (HBW.out.block i hi)⟩)
    have HRr := Lib.hid (show RtAt wr b off is from HR1.out.same (((hs.low (by omega) (by omega)).1).trans (HLow.out b (by omega))))
    have HXe := Lib.hid (show BX s wr w1.heap.size en from ⟨HEn.out.same (hs.low (by omega) (by omega)).1, by omega, (hs.low (by omega) (by omega)).2⟩)
    have HL := Lib.hid hl
    have HS := Lib.hid hs
    have HY := Lib.hid hly
    have hg : s.g = w1.heap.size + 1 := hs.g
    have HG := Lib.hid hg
    have HDg := Lib.hid hDg
    have hbr : b < wr.heap.size := by omega
    have y0 : wr.cell? ⟨w.heap.size, 0, none⟩ = some (.string ⟨#[]⟩) := by simp [World.cell?, hDg, zeroDg]
    have y1 : wr.cell? ⟨w.heap.size, 1, none⟩ = some (.int .i64 0) := by simp [World.cell?, hDg, zeroDg]
    have y2 : wr.cell? ⟨w.heap.size, 2, none⟩ = some (.int .i64 0) := by simp [World.cell?, hDg, zeroDg]
    have y3 : wr.cell? ⟨w.heap.size, 3, none⟩ = some (.int .i64 0) := by simp [World.cell?, hDg, zeroDg]
    have yf : ∀ j, wr.frozen? ⟨w.heap.size, j, none⟩ = false := fun j => by simp [World.frozen?, hDg, zeroDg]
    clear hl hs hly hg hDg HLow HD1 HB1 HR1 HLW HEn HBW HLy
    by_cases hlt : k < is.length
    · obtain ⟨a0, a1, a2, a3, a4⟩ := HRr.out k is[k] (by simp [hlt])
      have HD := Lib.hid (List.drop_eq_getElem_cons hlt)
      have HP := Lib.hid (prev_succ is k hlt)
      obtain ⟨F, hF⟩ : ∃ F, F = firstB (prevT is k) is[k] := ⟨_, rfl⟩
      have HFk := Lib.hid (show k = 0 → F = true from fun e => by subst e; rw [hF]; rfl)
      have HFs := Lib.hid (show ∀ j, k = j + 1 → wr.cell? ⟨b, off + j * 5 + 3, none⟩ = some (.int .i64 ((is[j]?.getD is[k]).line)) ∧ F = decide ((is[j]?.getD is[k]).line < is[k].line) from fun j e => by
        subst e
        have hj : is[j]? = some is[j] := List.getElem?_eq_getElem (by omega)
        refine ⟨by rw [hj]; exact (HRr.out j is[j] hj).2.2.2.1, ?_⟩
        rw [hF, prevT, hj]
        rfl)
      have HF := Lib.hid hF
      clear hF
      revert a0 a1 a2 a3 a4 HD HP HFk HFs HF
      generalize hgt : is[k] = t
      intro a0 a1 a2 a3 a4 HD HP HFk HFs HF
      clear hgt
      go_upto_region 7 with fail
      go_cut [10] (fun s10 wx => s10 = .bool F ∧ LayAt wx s rs out ∧ BX s wx wr.heap.size t ∧ Below wr.heap.size wr wx)
      case first =>
        have HX := Lib.hid (BX.new HL.out t)
        have HLa := Lib.hid (HL.out.below (below_alloc wr (boxT t)))
        rcases Nat.eq_zero_or_pos k with h0 | h0
        · have hf := HFk.out h0
          subst h0
          subst hf
          go_region
          all_goals
            go_wp2_with fail
            go_meet
            exact ⟨rfl, HLa.out.below (Below.refl _ _).drew, HX.out.below (Below.refl _ _).drew, (below_alloc _ _).drew⟩
        · obtain ⟨j, rfl⟩ : ∃ j, k = j + 1 := ⟨k - 1, by omega⟩
          obtain ⟨p3, hf⟩ := HFs.out j rfl
          obtain ⟨pl, hpl⟩ : ∃ pl, pl = (is[j]?.getD t).line := ⟨_, rfl⟩
          rw [← hpl] at p3 hf
          have HFx := Lib.hid hf
          clear hf hpl
          have i0 : (((j + 1 : Nat) : Int) == 0) = false := by simp; omega
          have i0' : (((j : Int) + 1) == 0) = false := by simp; omega
          have i1 : (0 : Int) ≤ (j : Int) := by omega
          have i2 : (j : Int) < (is.length : Int) := by omega
          go_region
          all_goals
            go_wp2_with fail
            go_meet
            exact ⟨by rw [HFx.out], HLa.out.below (Below.refl _ _).drew, HX.out.below (Below.refl _ _).drew, (below_alloc _ _).drew⟩
      case rest =>
        obtain ⟨rfl, hlc, hxc, hbc⟩ := hcut
        have HLc := Lib.hid hlc
        have HXc := Lib.hid hxc
        have HSc := Lib.hid (HS.out.trans (.of_below s hbc))
        obtain ⟨x0, x1, x2, x3, x4⟩ := hxc.at_
        have HY2 := Lib.hid (show layL ts = match tokL t F (openedB (prevT is k)) rs with
          | none => .error t
          | some (r, o) => layRest (some t) (is.drop (k + 1)) en r (out ++ o) by rw [HY.out, HD.out, rest_cons, HF.out])
        have hzc : wr.heap.size ≤ wc.heap.size := hbc.size
        have HBc := Lib.hid (show Below w.heap.size w wc from blwS HBr.out hbc HBr.out.size)
        have HDc := Lib.hid ((hbc.block w.heap.size (by omega)).trans HDg.out)
        clear hlc hxc hbc a0 a1 a2 a3 a4 y0 y1 y2 y3 yf HY HD HF HFk HFs
        cases hx : tokL t F (openedB (prevT is k)) rs with
        | none =>
          have HX := Lib.hid hx
          clear hx
          go_wp2_with fail
          refine (layToken_any wc s rs out t F (openedB (prevT is k)) (w1.heap.size + 1) HG.out HLc.out (by omega)).mono ?_
          rintro e w2 hp
          unfold LinePost at hp
          rw [HX.out] at hp
          obtain ⟨rfl, s2, rs2, out2, hl2, hs2⟩ := hp
          have HX2 := Lib.hid (HXc.out.step hs2)
          have HS2 := Lib.hid (HSc.out.trans hs2)
          clear x0 x1 x2 x3 x4 hl2 hs2
          obtain ⟨x0, x1, x2, x3, x4⟩ := HX2.out.at_
          have hDg2 : w2.heap[w.heap.size]? = some zeroDg := (((HS2.out.low (i := w.heap.size) (by omega) (by omega)).1.trans (HS.out.low (by omega) (by omega)).1.symm)).trans HDg.out
          have HB2 := Lib.hid (show Below w.heap.size w w2 from ⟨(HS2.out.os.trans HS.out.os.symm).trans HBr.out.os, (HS2.out.tape.trans HS.out.tape.symm).trans HBr.out.tape, (HS2.out.output.trans HS.out.output.symm).trans HBr.out.output, by have := HS2.out.size; omega, fun i hi => ((HS2.out.low (i := i) (by omega) (by omega)).1.trans (HS.out.low (by omega) (by omega)).1.symm).trans (HBr.out.block i hi)⟩)
          have hz2 : w.heap.size < w2.heap.size := by have := HS2.out.size; omega
          go_wp2_with fail
          refine (layWrong_any t _).mono ?_
          rintro e w3 ⟨rfl, hb3⟩
          have hDg3 : w3.heap[w.heap.size]? = some zeroDg := (hb3.block _ hz2).trans hDg2
          have hz3 : w.heap.size < w3.heap.size := Nat.lt_of_lt_of_le hz2 hb3.size
          have y0 : w3.cell? ⟨w.heap.size, 0, none⟩ = some (.string ⟨#[]⟩) := by simp [World.cell?, hDg3, zeroDg]
          have y1 : w3.cell? ⟨w.heap.size, 1, none⟩ = some (.int .i64 0) := by simp [World.cell?, hDg3, zeroDg]
          have y2 : w3.cell? ⟨w.heap.size, 2, none⟩ = some (.int .i64 0) := by simp [World.cell?, hDg3, zeroDg]
          have y3 : w3.cell? ⟨w.heap.size, 3, none⟩ = some (.int .i64 0) := by simp [World.cell?, hDg3, zeroDg]
          have yf : ∀ j, w3.frozen? ⟨w.heap.size, j, none⟩ = false := fun j => by simp [World.frozen?, hDg3, zeroDg]
          have HB3 := Lib.hid (blwS HB2.out hb3 HB2.out.size)
          clear hb3 hDg2 hDg3 x0 x1 x2 x3 x4
          unfold dgV
          go_wp2
          refine bodyPost_ret (v := .tuple #[.slice none 0 0, dgV t.line t.col 20]) (by simp [results, go_sem, dgV, y0, y1, y2, y3]) rfl ?_
          unfold LayPost
          rw [HY2.out, HX.out]
          refine ⟨rfl, ?_⟩
          exact bls_set (bls_set (bls_set (bls_set HB3.out (Nat.le_refl _) _ _) (Nat.le_refl _) _ _) (Nat.le_refl _) _ _) (Nat.le_refl _) _ _
        | some y =>
          obtain ⟨r2, o2⟩ := y
          have htl := tok_len hx
          have HX := Lib.hid hx
          clear hx
          go_wp2_with fail
          refine (layToken_any wc s rs out t F (openedB (prevT is k)) (w1.heap.size + 1) HG.out HLc.out (by omega)).mono ?_
          rintro e w2 hp
          unfold LinePost at hp
          rw [HX.out] at hp
          obtain ⟨rfl, s2, hl2, hs2⟩ := hp
          have HX2 := Lib.hid (HXc.out.step hs2)
          have HS2 := Lib.hid (HSc.out.trans hs2)
          have HL2 := Lib.hid hl2
          clear x0 x1 x2 x3 x4 hl2 hs2
          obtain ⟨x0, x1, x2, x3, x4⟩ := HX2.out.at_
          go_wp2_with fail
          refine (isOpener_any t _).mono ?_
          rintro e w3 ⟨rfl, hb3⟩
          have HL3 := Lib.hid (HL2.out.below hb3)
          have HS3 := Lib.hid (HS2.out.trans (.of_below s2 hb3))
          clear hb3 x0 x1 x2 x3 x4
          go_wp2
          go_roundw
          case rel => exact ⟨k + 1, s2, r2, out ++ o2, by omega, by go_num, by rw [HP.out]; rfl, HL3.out, HS3.out, by rw [HY2.out, HX.out, HP.out], by simp; omega⟩
          case measure => simp [intOf]; omega
    · obtain rfl : k = is.length := by omega
      obtain ⟨O, hO⟩ : ∃ O, O = openedB (prevT is is.length) := ⟨_, rfl⟩
      have HY2 := Lib.hid (show layL ts = match (finX en O rs).map (·.2) with
          | none => .error en
          | some o' => .ok (out ++ o') by
        rw [HY.out, List.drop_length, layRest, goL, ← fin_eq, hO]
        simp)
      rw [← hO]
      obtain ⟨x0, x1, x2, x3, x4⟩ := HXe.out.at_
      clear hO hlt hk HY y0 y1 y2 y3 yf
      cases hx : finX en O rs with
      | none =>
        have HX := Lib.hid hx
        clear hx
        go_wp2_with fail
        refine (finish_any wr s rs out en O (w1.heap.size + 1) HG.out HL.out (by omega)).mono ?_
        rintro e w2 hp
        unfold LinePost at hp
        rw [HX.out] at hp
        obtain ⟨rfl, s2, rs2, out2, hl2, hs2⟩ := hp
        have HX2 := Lib.hid (HXe.out.step hs2)
        have HS2 := Lib.hid (HS.out.trans hs2)
        clear x0 x1 x2 x3 x4 hl2 hs2
        obtain ⟨x0, x1, x2, x3, x4⟩ := HX2.out.at_
        have hDg2 : w2.heap[w.heap.size]? = some zeroDg := (((HS2.out.low (i := w.heap.size) (by omega) (by omega)).1.trans (HS.out.low (by omega) (by omega)).1.symm)).trans HDg.out
        have HB2 := Lib.hid (show Below w.heap.size w w2 from ⟨(HS2.out.os.trans HS.out.os.symm).trans HBr.out.os, (HS2.out.tape.trans HS.out.tape.symm).trans HBr.out.tape, (HS2.out.output.trans HS.out.output.symm).trans HBr.out.output, by have := HS2.out.size; omega, fun i hi => ((HS2.out.low (i := i) (by omega) (by omega)).1.trans (HS.out.low (by omega) (by omega)).1.symm).trans (HBr.out.block i hi)⟩)
        have hz2 : w.heap.size < w2.heap.size := by have := HS2.out.size; omega
        go_wp2_with fail
        refine (layWrong_any en _).mono ?_
        rintro e w3 ⟨rfl, hb3⟩
        have hDg3 : w3.heap[w.heap.size]? = some zeroDg := (hb3.block _ hz2).trans hDg2
        have hz3 : w.heap.size < w3.heap.size := Nat.lt_of_lt_of_le hz2 hb3.size
        have y0 : w3.cell? ⟨w.heap.size, 0, none⟩ = some (.string ⟨#[]⟩) := by simp [World.cell?, hDg3, zeroDg]
        have y1 : w3.cell? ⟨w.heap.size, 1, none⟩ = some (.int .i64 0) := by simp [World.cell?, hDg3, zeroDg]
        have y2 : w3.cell? ⟨w.heap.size, 2, none⟩ = some (.int .i64 0) := by simp [World.cell?, hDg3, zeroDg]
        have y3 : w3.cell? ⟨w.heap.size, 3, none⟩ = some (.int .i64 0) := by simp [World.cell?, hDg3, zeroDg]
        have yf : ∀ j, w3.frozen? ⟨w.heap.size, j, none⟩ = false := fun j => by simp [World.frozen?, hDg3, zeroDg]
        have HB3 := Lib.hid (blwS HB2.out hb3 HB2.out.size)
        clear hb3 hDg2 hDg3 x0 x1 x2 x3 x4
        unfold dgV
        go_wp2
        refine bodyPost_ret (v := .tuple #[.slice none 0 0, dgV en.line en.col 20]) (by simp [results, go_sem, dgV, y0, y1, y2, y3]) rfl ?_
        unfold LayPost
        rw [HY2.out, HX.out]
        refine ⟨rfl, ?_⟩
        exact bls_set (bls_set (bls_set (bls_set HB3.out (Nat.le_refl _) _ _) (Nat.le_refl _) _ _) (Nat.le_refl _) _ _) (Nat.le_refl _) _ _
      | some y =>
        obtain ⟨r2, o2⟩ := y
        have HX := Lib.hid hx
        clear hx
        go_wp2_with fail
        refine (finish_any wr s rs out en O (w1.heap.size + 1) HG.out HL.out (by omega)).mono ?_
        rintro e w2 hp
        unfold LinePost at hp
        rw [HX.out] at hp
        obtain ⟨rfl, s2, hl2, hs2⟩ := hp
        have HS2 := Lib.hid (HS.out.trans hs2)
        have HL2 := Lib.hid hl2
        have hg2 : s2.g = w1.heap.size + 1 := hs2.g.trans HG.out
        have c2 := hl2.cells.2.2
        rw [hg2] at c2
        have HG2 := Lib.hid hg2
        clear x0 x1 x2 x3 x4 hl2 hs2 hg2
        have hDg2 : w2.heap[w.heap.size]? = some zeroDg := (((HS2.out.low (i := w.heap.size) (by omega) (by omega)).1.trans (HS.out.low (by omega) (by omega)).1.symm)).trans HDg.out
        have HB2 := Lib.hid (show Below w.heap.size w w2 from ⟨(HS2.out.os.trans HS.out.os.symm).trans HBr.out.os, (HS2.out.tape.trans HS.out.tape.symm).trans HBr.out.tape, (HS2.out.output.trans HS.out.output.symm).trans HBr.out.output, by have := HS2.out.size; omega, fun i hi => ((HS2.out.low (i := i) (by omega) (by omega)).1.trans (HS.out.low (by omega) (by omega)).1.symm).trans (HBr.out.block i hi)⟩)
        have hz2 : w.heap.size < w2.heap.size := by have := HS2.out.size; omega
        have y0 : w2.cell? ⟨w.heap.size, 0, none⟩ = some (.string ⟨#[]⟩) := by simp [World.cell?, hDg2, zeroDg]
        have y1 : w2.cell? ⟨w.heap.size, 1, none⟩ = some (.int .i64 0) := by simp [World.cell?, hDg2, zeroDg]
        have y2 : w2.cell? ⟨w.heap.size, 2, none⟩ = some (.int .i64 0) := by simp [World.cell?, hDg2, zeroDg]
        have y3 : w2.cell? ⟨w.heap.size, 3, none⟩ = some (.int .i64 0) := by simp [World.cell?, hDg2, zeroDg]
        have yf : ∀ j, w2.frozen? ⟨w.heap.size, j, none⟩ = false := fun j => by simp [World.frozen?, hDg2, zeroDg]
        clear hDg2
        go_wp2
        refine bodyPost_ret (v := .tuple #[s2.vo, dgV 0 0 0]) (by simp [results, go_sem, dgV, y0, y1, y2, y3]) rfl ?_
        unfold LayPost
        rw [HY2.out, HX.out]
        refine ⟨s2.vo, rfl, ?_, bls_set (bls_set (bls_set (bls_set HB2.out (Nat.le_refl _) _ _) (Nat.le_refl _) _ _) (Nat.le_refl _) _ _) (Nat.le_refl _) _ _⟩
        have hb2 : w.heap.size < s2.g + 1 := by rw [HG2.out]; omega
        exact (own_set (own_set (own_set (own_set HL2.out.ou hb2 _ _) hb2 _ _) hb2 _ _) hb2 _ _).mono (by omega)
end Go.Proofs.Ytbjbmehkcfpahaa
