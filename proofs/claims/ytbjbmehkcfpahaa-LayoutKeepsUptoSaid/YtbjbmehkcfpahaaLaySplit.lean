/- Contracts of layout's finish, split and wrong. No condition but bounds on what is open and laid. -/
import Derived.Test.YtbjbmehkcfpahaaLayTokF
import Derived.Test.YtbjbmehkcfpahaaLayTokT
namespace Go.Proofs.Ytbjbmehkcfpahaa
open Go.RowKit Lx
attribute [local go_sem] bt_size bt_get bt_list bt_toList bt_drop bt_take
attribute [local go_sem ↓] Go.wp_at_zero Go.wp_at_succ

theorem layToken_any (w : World) (s : St) (rs : List En) (out : List Rt) (t : Rt) (first opened : Bool) (g : Nat) (hg : s.g = g) (h : LayAt w s rs out) (hn : rs.length + out.length ≤ 8000000) :
    Calls Try.prog 33 #[.pointer (some ⟨g, 0, none⟩), tokV t, .bool first, .bool opened] w fun e w' => LinePost s w out (tokL t first opened rs) e w' := by
  subst hg
  cases opened with
  | false => exact token_no w s rs out t first h hn rfl
  | true =>
    cases hc : curB t with
    | true => exact token_brace w s rs out t first h hn hc
    | false => exact token_yes w s rs out t first h hn (by simp [hc])

def finX (e : Rt) (opened : Bool) (rs : List En) : Option (List En × List Rt) :=
  let b := if opened then beginL e 0 rs else (false, rs, [])
  match lnL e 0 (b.2.1.length + 1) b.2.1 with
  | none => none
  | some (r, o) => some (r, b.2.2 ++ o ++ [e])
theorem fin_eq (e : Rt) (opened : Bool) (rs : List En) : finL e opened rs = (finX e opened rs).map (·.2) := by
  unfold finL finX
  simp only
  rw [ln_fuel e 0 (rs.length + 2) ((if opened then beginL e 0 rs else (false, rs, [])).2.1.length + 1) _ (by
    cases opened
    · simp
    · simp only [if_true, beginL]; split <;> simp) (by omega)]
  cases lnL e 0 ((if opened then beginL e 0 rs else (false, rs, [])).2.1.length + 1) (if opened then beginL e 0 rs else (false, rs, [])).2.1 <;> rfl

set_option maxHeartbeats 4000000 in
set_option maxRecDepth 100000 in
theorem finish_any (w : World) (s : St) (rs : List En) (out : List Rt) (t : Rt) (opened : Bool) (g : Nat) (hg : s.g = g) (h : LayAt w s rs out) (hn : rs.length + out.length ≤ 8000000) :
    Calls Try.prog 36 #[.pointer (some ⟨g, 0, none⟩), tokV t, .bool opened] w fun e w' => LinePost s w out (finX t opened rs) e w' := by
  subst hg
  have HL0 := Lib.hid (h.below (below_alloc w (boxT t)))
  have HS0 := Lib.hid (Step.of_below s (below_alloc w (boxT t)))
  have HX0 := Lib.hid (BX.new h t)
  clear h
  unfold tokV
  obtain ⟨b, hb⟩ : ∃ b, b = (if opened then beginL t 0 rs else (false, rs, [])) := ⟨_, rfl⟩
  have hbl : b.2.1.length + b.2.2.length ≤ rs.length + 2 := by
    rw [hb]
    cases opened
    · simp
    · exact begin_len t 0 rs
  have HR := Lib.hid (show finX t opened rs = match lnL t 0 (b.2.1.length + 1) b.2.1 with
    | none => none
    | some (r, o) => some (r, b.2.2 ++ o ++ [t]) by rw [hb]; rfl)
  have HB := Lib.hid hb
  clear hb
  go_enter Try.func36, Try.ntmps36
  go_upto_if 7 with (fail)
  go_cut [] (fun wx => ∃ s1 : St, LayAt wx s1 b.2.1 (out ++ b.2.2) ∧ Step s s1 w wx ∧ BX s1 wx w.heap.size t)
  case first =>
    cases opened with
    | false =>
      have HB' := HB.out
      simp at HB'
      subst HB'
      clear HB
      go_wp2_with fail
      go_meet
      exact ⟨s, by show LayAt _ s rs (out ++ []); rw [List.append_nil]; exact HL0.out, HS0.out, HX0.out⟩
    | true =>
      have HB' := HB.out
      simp at HB'
      subst HB'
      clear HB
      go_wp2_with fail
      refine (begin_g (w.alloc (boxT t)) s rs out t 0 s.g rfl HL0.out (by omega)).mono ?_
      rintro e w3 ⟨rfl, s3, hl3, hs3⟩
      have HL3 := Lib.hid hl3
      have HS3 := Lib.hid (HS0.out.trans hs3)
      have HX3 := Lib.hid (HX0.out.step hs3)
      clear hl3 hs3
      go_wp2_with fail
      go_meet
      exact ⟨s3, HL3.out, HS3.out, HX3.out⟩
  case rest =>
    obtain ⟨s1, hl1, hs1, hx1⟩ := hcut
    have HL1 := Lib.hid hl1
    have HS1 := Lib.hid hs1
    have HX1 := Lib.hid hx1
    obtain ⟨x0, x1, x2, x3, x4⟩ := HX1.out.at_
    clear hl1 hs1 hx1 HB
    cases hln : lnL t 0 (b.2.1.length + 1) b.2.1 with
    | none =>
      have HSe := Lib.hid hln
      clear hln
      go_wp2_with fail
      refine (line_g wc s1 b.2.1 _ t 0 s.g HS1.out.g HL1.out (by simp; omega)).mono ?_
      rintro e w2 hp
      unfold LinePost at hp
      rw [HSe.out] at hp
      obtain ⟨rfl, s2, rs2, out2, hl2, hs2⟩ := hp
      have HL2 := Lib.hid hl2
      have HS2 := Lib.hid (HS1.out.trans hs2)
      clear hl2 hs2 x0 x1 x2 x3 x4
      go_wp2
      go_ret
      unfold LinePost
      rw [HR.out, HSe.out]
      exact ⟨rfl, s2, _, _, HL2.out, HS2.out⟩
    | some y =>
      obtain ⟨r2, o2⟩ := y
      have hl2 := ln_len _ _ _ _ _ _ hln
      have HSe := Lib.hid hln
      clear hln
      go_wp2_with fail
      refine (line_g wc s1 b.2.1 _ t 0 s.g HS1.out.g HL1.out (by simp; omega)).mono ?_
      rintro e w2 hp
      unfold LinePost at hp
      rw [HSe.out] at hp
      obtain ⟨rfl, s2, hl2', hs2⟩ := hp
      have HL2 := Lib.hid hl2'
      have HS2 := Lib.hid (HS1.out.trans hs2)
      have HX2 := Lib.hid (HX1.out.step hs2)
      clear hl2' hs2 x0 x1 x2 x3 x4
      obtain ⟨x0, x1, x2, x3, x4⟩ := HX2.out.at_
      go_wp2_with fail
      refine (emit_g w2 s2 _ _ t s.g HS2.out.g HL2.out (by simp; omega)).mono ?_
      rintro e w3 ⟨rfl, s3, hl3, hs3⟩
      have HL3 := Lib.hid hl3
      have HS3 := Lib.hid (HS2.out.trans hs3)
      clear hl3 hs3 x0 x1 x2 x3 x4
      go_wp2
      go_ret
      unfold LinePost
      rw [HR.out, HSe.out]
      refine ⟨rfl, s3, ?_, HS3.out⟩
      have := HL3.out
      simpa [List.append_assoc] using this

/-- A Diag as a value. -/
def dgV (l c n : Int) : Value := .agg #[.string ⟨#[]⟩, .int .i64 l, .int .i64 c, .int .i64 n]

set_option maxHeartbeats 400000 in
set_option maxRecDepth 100000 in
theorem layWrong_any (t : Rt) (w : World) : Calls Try.prog 34 #[tokV t] w fun e w' => e = .returned (dgV t.line t.col 20) ∧ Below w.heap.size w w' := by
  unfold tokV
  go_enter Try.func34, Try.ntmps34
  go_wp2
  refine bodyPost_ret (v := dgV t.line t.col 20) (by simp [results, go_sem, dgV]) rfl ⟨rfl, ?_⟩
  exact blw2 (below_alloc _ _) (below_alloc _ _)

/-- Tokens lie side by side, from a place in a block on. -/
def RtAt (w : World) (b off : Nat) (ts : List Rt) : Prop := ∀ (i : Nat) (t : Rt), ts[i]? = some t →
  w.cell? ⟨b, off + i * 5, none⟩ = some (.int .i64 t.kind) ∧ w.cell? ⟨b, off + i * 5 + 1, none⟩ = some (.string (bt t.text)) ∧ w.cell? ⟨b, off + i * 5 + 2, none⟩ = some (.int .i64 t.n) ∧
  w.cell? ⟨b, off + i * 5 + 3, none⟩ = some (.int .i64 t.line) ∧ w.cell? ⟨b, off + i * 5 + 4, none⟩ = some (.int .i64 t.col)
theorem RtAt.same {w w' : World} {b off : Nat} {ts : List Rt} (h : RtAt w b off ts) (hb : w'.heap[b]? = w.heap[b]?) : RtAt w' b off ts := fun i t hi => by
  obtain ⟨a, c, d, e, f⟩ := h i t hi
  have k : ∀ o, w'.cell? ⟨b, o, none⟩ = w.cell? ⟨b, o, none⟩ := fun o => World.cell?_of_block (a := ⟨b, o, none⟩) hb
  rw [k, k, k, k, k]
  exact ⟨a, c, d, e, f⟩
theorem RtAt.below {w w' : World} {b off B : Nat} {ts : List Rt} (h : RtAt w b off ts) (hb : Below B w w') (hlt : b < B) : RtAt w' b off ts := h.same (hb.block b hlt)

theorem split_found : ∀ (ts : List Rt) (last : Option Rt) (k : Nat) (hk : k < ts.length), (∀ t ∈ ts.take k, t.kind ≠ 9) → ts[k].kind = 9 → splitL last ts = (ts.take k, ts[k])
  | [], _, k, hk, _, _ => by simp at hk
  | t :: ts, last, 0, _, _, h => by
    simp at h
    simp [splitL, h]
  | t :: ts, last, k + 1, hk, ha, h => by
    have ht : (t.kind == 9) = false := by simpa using ha t (by simp)
    simp at hk
    rw [splitL, ht, split_found ts (some t) k hk (fun x hx => ha x (by simp [hx])) (by simpa using h)]
    simp
theorem split_all : ∀ (ts : List Rt) (last : Option Rt), (∀ t ∈ ts, t.kind ≠ 9) → splitL last ts = (ts, endT (match ts.getLast? with | none => last | some t => some t))
  | [], last, _ => by simp [splitL]
  | t :: ts, last, ha => by
    have ht : (t.kind == 9) = false := by simpa using ha t (by simp)
    rw [splitL, ht, split_all ts (some t) (fun x hx => ha x (by simp [hx]))]
    cases ts with
    | nil => simp
    | cons a l =>
      obtain ⟨z, hz⟩ : ∃ z, (a :: l).getLast? = some z := ⟨(a :: l).getLast (by simp), List.getLast?_eq_some_getLast _⟩
      simp [List.getLast?_cons_cons, hz]

def zeroRt : Obj := .cells #[.int .i64 0, .string ⟨#[]⟩, .int .i64 0, .int .i64 0, .int .i64 0] 33
/-- At the head of each round of split's loop. -/
def SplitRel (w : World) (ts : List Rt) (i : Value) (wr : World) : Prop := ∃ k : Nat, k ≤ ts.length ∧ i = .int .i64 k ∧ (∀ t ∈ ts.take k, t.kind ≠ 9) ∧ Below (w.heap.size + 1) (w.alloc zeroRt) wr
theorem zero_cells {w wr : World} (h : Below (w.heap.size + 1) (w.alloc zeroRt) wr) : wr.heap[w.heap.size]? = some zeroRt ∧ w.heap.size < wr.heap.size := by
  have h1 := (h.block w.heap.size (by omega)).trans (heap_alloc_new w zeroRt)
  exact ⟨h1, (Array.getElem?_eq_some_iff.1 h1).1⟩
def SplitPost (w : World) (v : Value) (t : Rt) (e : Ending) (w' : World) : Prop := e = .returned (.tuple #[v, tokV t]) ∧ Below w.heap.size w w'
theorem bel_down {w wr : World} (h : Below (w.heap.size + 1) (w.alloc zeroRt) wr) : Below w.heap.size w wr := (below_alloc w zeroRt).trans (h.mono (by omega))

set_option maxHeartbeats 4000000 in
set_option maxRecDepth 100000 in
theorem split_any (w : World) (b off cap : Nat) (ts : List Rt) (h : RtAt w b off ts) (hb : b < w.heap.size) (hc : ts.length ≤ cap) (hm : cap ≤ maxLen) :
    Calls Try.prog 32 #[.slice (some ⟨b, off, none⟩) ts.length cap] w fun e w' => SplitPost w (.slice (some ⟨b, off, none⟩) (splitL none ts).1.length cap) (splitL none ts).2 e w' := by
  have HT := Lib.hid h
  unfold maxLen at hm
  clear h
  go_enter Try.func32, Try.ntmps32
  go_wp2
  go_loopw [10] (fun i wr => SplitRel w ts i wr) (fun i _ => ts.length - (intOf i).toNat)
  case atStart => exact ⟨0, Nat.zero_le _, rfl, by simp, Below.refl _ _⟩
  case round =>
    obtain ⟨k, hk, rfl, hall, hbel⟩ := hrel
    obtain ⟨hz, hzl⟩ := zero_cells hbel
    have z0 : wr.cell? ⟨w.heap.size, 0, none⟩ = some (.int .i64 0) := by simp [World.cell?, hz, zeroRt]
    have z1 : wr.cell? ⟨w.heap.size, 1, none⟩ = some (.string ⟨#[]⟩) := by simp [World.cell?, hz, zeroRt]
    have z2 : wr.cell? ⟨w.heap.size, 2, none⟩ = some (.int .i64 0) := by simp [World.cell?, hz, zeroRt]
    have z3 : wr.cell? ⟨w.heap.size, 3, none⟩ = some (.int .i64 0) := by simp [World.cell?, hz, zeroRt]
    have z4 : wr.cell? ⟨w.heap.size, 4, none⟩ = some (.int .i64 0) := by simp [World.cell?, hz, zeroRt]
    have zf : ∀ j, wr.frozen? ⟨w.heap.size, j, none⟩ = false := fun j => by simp [World.frozen?, hz, zeroRt]
    have H := Lib.hid hall
    have HB := Lib.hid hbel
    clear hall hbel hz
    by_cases hlt : k < ts.length
    · obtain ⟨a0, a1, a2, a3, a4⟩ := HT.out k ts[k] (by simp [hlt])
      have hbk : ∀ o, wr.cell? ⟨b, o, none⟩ = w.cell? ⟨b, o, none⟩ := fun o => (bel_down HB.out).cell (p := ⟨b, o, none⟩) hb
      rw [← hbk] at a0 a1 a2 a3 a4
      have hbr : b < wr.heap.size := Nat.lt_of_lt_of_le hb (bel_down HB.out).size
      have HF := Lib.hid (fun h9 : ts[k].kind = 9 => split_found ts none k hlt H.out h9)
      have HN := Lib.hid (show ts[k].kind ≠ 9 → ∀ t ∈ ts.take (k + 1), t.kind ≠ 9 from fun h9 t ht => by
        rw [List.take_succ_eq_append_getElem hlt] at ht
        rcases List.mem_append.1 ht with ht | ht
        · exact H.out t ht
        · simp at ht; rw [ht]; exact h9)
      clear hbk
      have i1 : (0 : Int) ≤ (k : Int) := by omega
      have i2 : (k : Int) ≤ (cap : Int) := by omega
      revert HF HN a0 a1 a2 a3 a4
      generalize ts[k] = t
      intro a0 a1 a2 a3 a4 HF HN
      by_cases h9 : t.kind = 9
      · have h9' : (t.kind == 9) = true := by rw [h9]; rfl
        have HS := Lib.hid (HF.out h9)
        clear h9
        go_wp2
        go_region
        all_goals
          go_wp2
          refine bodyPost_ret (v := .tuple #[.slice (some ⟨b, off, none⟩) k cap, tokV t]) (by simp [results, go_sem, tokV, z0, z1, z2, z3, z4, hzl]) rfl ?_
          refine ⟨by rw [HS.out]; simp [List.length_take, Nat.min_eq_left hk], ?_⟩
          exact ((bls_set (bls_set (bls_set (bls_set (bls_set (bel_down HB.out) (Nat.le_refl _) 0 _) (Nat.le_refl _) 1 _) (Nat.le_refl _) 2 _) (Nat.le_refl _) 3 _) (Nat.le_refl _) 4 _).alloc (by simp; omega) _).drew
      · have h9' : (t.kind == 9) = false := by simpa using h9
        have HS := Lib.hid (HN.out h9)
        clear h9
        go_wp2
        go_roundw
        case rel => exact ⟨k + 1, by omega, by go_num, HS.out, (HB.out.alloc (by omega) _)⟩
        case measure => simp [intOf]; omega
    · obtain rfl : k = ts.length := by omega
      have HA := Lib.hid (split_all ts none (by have := H.out; rwa [List.take_of_length_le (by omega)] at this))
      clear hlt hk H
      rcases Nat.eq_zero_or_pos ts.length with h0 | h0
      · have h0' : ts = [] := List.eq_nil_of_length_eq_zero h0
        subst h0'
        clear h0
        go_wp2
        go_region
        all_goals
          go_wp2
          refine bodyPost_ret (v := .tuple #[.slice (some ⟨b, off, none⟩) 0 cap, tokV (endT none)]) (by simp [results, go_sem, tokV, endT, z0, z1, z2, z3, z4, hzl]; rfl) rfl ?_
          refine ⟨rfl, ?_⟩
          exact ((bls_set (bls_set (bls_set (bls_set (bls_set (bel_down HB.out) (Nat.le_refl _) 0 _) (Nat.le_refl _) 1 _) (Nat.le_refl _) 2 _) (Nat.le_refl _) 3 _) (Nat.le_refl _) 4 _).alloc (by simp; omega) _).drew
      · obtain ⟨m, hm'⟩ : ∃ m, ts.length = m + 1 := ⟨ts.length - 1, by omega⟩
        have hlast : ts.getLast? = some ts[m] := by
          rw [List.getLast?_eq_getElem?, show ts.length - 1 = m from by omega]
          exact List.getElem?_eq_getElem (by omega)
        obtain ⟨a0, a1, a2, a3, a4⟩ := HT.out m ts[m] (by simp [hm'])
        have hbk : ∀ o, wr.cell? ⟨b, o, none⟩ = w.cell? ⟨b, o, none⟩ := fun o => (bel_down HB.out).cell (p := ⟨b, o, none⟩) hb
        rw [← hbk] at a0 a1 a2 a3 a4
        have hbr : b < wr.heap.size := Nat.lt_of_lt_of_le hb (bel_down HB.out).size
        have HA' := Lib.hid (show splitL none ts = (ts, endT (some ts[m])) by rw [HA.out, hlast])
        clear hlast HA hbk
        revert HA' a0 a1 a2 a3 a4
        generalize ts[m] = t
        intro a0 a1 a2 a3 a4 HA'
        rw [hm'] at hc ⊢
        clear h0
        have HM := Lib.hid hm'
        clear hm'
        go_wp2
        go_region
        all_goals
          go_wp2
          go_region
          all_goals
            go_wp2
            refine bodyPost_ret (v := .tuple #[.slice (some ⟨b, off, none⟩) (m + 1) cap, tokV (endT (some t))]) (by simp [results, go_sem, tokV, endT, z0, z1, z2, z3, z4, hzl]; rfl) rfl ?_
            refine ⟨by rw [HA'.out, HM.out], ?_⟩
            have B5 := bls_set (bls_set (bls_set (bls_set (bls_set (bel_down HB.out) (Nat.le_refl _) 0 (.int .i64 9)) (Nat.le_refl _) 1 (.string ⟨#[]⟩)) (Nat.le_refl _) 2 (.int .i64 0)) (Nat.le_refl _) 3 (.int .i64 t.line)) (Nat.le_refl _) 4 (.int .i64 t.col)
            exact ((B5.alloc (by simp; omega) _).alloc (by simp; omega) _).drew.drew

set_option maxHeartbeats 1000000 in
set_option maxRecDepth 100000 in
theorem split_nil (w : World) :
    Calls Try.prog 32 #[.slice none 0 0] w fun e w' => SplitPost w (.slice none 0 0) (endT none) e w' := by
  go_enter Try.func32, Try.ntmps32
  go_wp2
  refine wp_loop_rounds 1 ?_
  rw [rounds_succ]
  go_wp2
  go_region
  all_goals
    go_wp2
    refine bodyPost_ret (v := .tuple #[.slice none 0 0, tokV (endT none)]) (by simp [results, go_sem, tokV, endT]; rfl) rfl ?_
    refine ⟨rfl, ?_⟩
    exact blw2 (below_alloc _ _).drew (below_alloc _ _)
end Go.Proofs.Ytbjbmehkcfpahaa
