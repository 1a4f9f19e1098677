/- The reference layout: its object in memory, and contracts of its word, opener, closer, loose, fits, lay, block, only, line and closes. No condition but bounds on what is open and laid, and that words and signs are told apart. -/
import Derived.Test.YtbjbmehkcfpahaaLayTok
import Derived.Test.YtbjbmehkcfpahaaLayCl
namespace Go.Proofs.Ytbjbmehkcfpahaa
section
open Go.RowKit Lx
attribute [local go_sem] bt_size bt_get bt_list bt_toList bt_drop bt_take
attribute [local go_sem ↓] Go.wp_at_zero Go.wp_at_succ

/-- What tells a token, to the reference. -/
def wdL (t : Rt) : List UInt8 := if t.kind == 7 || t.kind == 8 then t.text else []
/-- A word has no sign's text, a sign has no word's. -/
def GoodT (t : Rt) : Prop := (t.kind = 7 → oneB [[40], [41], [91], [93], [123], [125], [44]] t.text = false) ∧
  (t.kind = 8 → oneB [[119, 104, 101, 114, 101], [108, 101, 116], [100, 111], [111, 102], [116, 104, 101, 110], [101, 108, 115, 101], [105, 110], [105, 102], [99, 97, 115, 101]] t.text = false)
def cloA : List (List UInt8) := [[41], [93], [125], [44], [116, 104, 101, 110], [101, 108, 115, 101], [111, 102], [105, 110]]
def mrkA : List (List UInt8) := [[40], [91], [123], [105, 102], [99, 97, 115, 101], [108, 101, 116]]

theorem good_opn {t : Rt} (h : GoodT t) : oneB opnW (wdL t) = opnB t := by
  unfold wdL opnB wordT
  by_cases h7 : t.kind = 7
  · simp [h7]
  · by_cases h8 : t.kind = 8
    · have := h.2 h8
      simp [oneB] at this
      simp [h8, oneB, opnW, this]
    · simp [h7, h8, oneB, opnW]
theorem good_clo {t : Rt} (h : GoodT t) : oneB cloA (wdL t) = cloB t := by
  unfold wdL cloB wordT signT
  by_cases h7 : t.kind = 7
  · have := h.1 h7
    simp [oneB] at this
    simp [h7, oneB, cloA, cloS, cloW, this]
  · by_cases h8 : t.kind = 8
    · have := h.2 h8
      simp [oneB] at this
      simp [h8, oneB, cloA, cloS, cloW, this]
    · simp [h7, h8, oneB, cloA]
theorem good_cur {t : Rt} (h : GoodT t) : (wdL t == [123]) = curB t := by
  unfold wdL curB signT
  by_cases h7 : t.kind = 7
  · have := h.1 h7
    simp [oneB] at this
    simp [h7, this]
  · by_cases h8 : t.kind = 8
    · rw [Bool.eq_iff_iff]; simp [h8, oneB]
    · simp [h7, h8]
theorem good_mrk {t : Rt} (h : GoodT t) : oneB mrkA (wdL t) = mrkB t := by
  unfold wdL mrkB wordT signT
  by_cases h7 : t.kind = 7
  · have := h.1 h7
    simp [oneB] at this
    simp [h7, oneB, mrkA, mrkS, mrkW, this]
  · by_cases h8 : t.kind = 8
    · have := h.2 h8
      simp [oneB] at this
      simp [h8, oneB, mrkA, mrkS, mrkW, this]
    · simp [h7, h8, oneB, mrkA]
theorem wd_of {t : Rt} (h : oneB cloA (wdL t) = true ∨ oneB mrkA (wdL t) = true) : wdL t = t.text := by
  unfold wdL at h ⊢
  split
  · rfl
  · rename_i hk
    simp only [hk] at h
    rcases h with h | h <;> simp [oneB, cloA, mrkA] at h

set_option maxHeartbeats 400000 in
set_option maxRecDepth 100000 in
theorem wordR_any (t : Rt) (w : World) : Calls Try.prog 39 #[tokV t] w fun e w' => e = .returned (.string (bt (wdL t))) ∧ Below w.heap.size w w' := by
  unfold wdL
  cases h7 : (t.kind == 7) with
  | true =>
    unfold tokV
    go_enter Try.func39, Try.ntmps39
    go_wp2
    go_ret
    exact ⟨rfl, below_alloc _ _⟩
  | false =>
    cases h8 : (t.kind == 8) with
    | true =>
      unfold tokV
      go_enter Try.func39, Try.ntmps39
      go_wp2
      go_ret
      exact ⟨rfl, below_alloc _ _⟩
    | false =>
      unfold tokV
      go_enter Try.func39, Try.ntmps39
      go_wp2
      go_ret
      exact ⟨rfl, below_alloc _ _⟩

set_option maxHeartbeats 400000 in
set_option maxRecDepth 100000 in
theorem opener_any (x : List UInt8) (w : World) : Calls Try.prog 38 #[.string (bt x)] w fun e w' => e = .returned (.bool (oneB opnW x)) ∧ w = w' := by
  unfold oneB opnW
  simp only [List.contains_cons, List.contains_nil, Bool.or_false]
  cases t1 : (x == [119, 104, 101, 114, 101]) <;> cases t2 : (x == [108, 101, 116]) <;> cases t3 : (x == [100, 111]) <;> cases t4 : (x == [111, 102])
  all_goals
    go_enter Try.func38, Try.ntmps38
    go_wp2
    go_ret
    exact ⟨rfl, rfl⟩

set_option maxHeartbeats 800000 in
set_option maxRecDepth 100000 in
theorem closer_any (x : List UInt8) (w : World) : Calls Try.prog 68 #[.string (bt x)] w fun e w' => e = .returned (.bool (oneB cloA x)) ∧ w = w' := by
  unfold oneB cloA
  simp only [List.contains_cons, List.contains_nil, Bool.or_false]
  cases t1 : (x == [41]) with
  | true =>
    go_enter Try.func68, Try.ntmps68
    go_wp2
    go_ret
    exact ⟨rfl, rfl⟩
  | false =>
    cases t2 : (x == [93]) with
    | true =>
      go_enter Try.func68, Try.ntmps68
      go_wp2
      go_ret
      exact ⟨rfl, rfl⟩
    | false =>
      cases t3 : (x == [125]) with
      | true =>
        go_enter Try.func68, Try.ntmps68
        go_wp2
        go_ret
        exact ⟨rfl, rfl⟩
      | false =>
        cases t4 : (x == [44]) with
        | true =>
          go_enter Try.func68, Try.ntmps68
          go_wp2
          go_ret
          exact ⟨rfl, rfl⟩
        | false =>
          cases t5 : (x == [116, 104, 101, 110]) with
          | true =>
            go_enter Try.func68, Try.ntmps68
            go_wp2
            go_ret
            exact ⟨rfl, rfl⟩
          | false =>
            cases t6 : (x == [101, 108, 115, 101]) with
            | true =>
              go_enter Try.func68, Try.ntmps68
              go_wp2
              go_ret
              exact ⟨rfl, rfl⟩
            | false =>
              cases t7 : (x == [111, 102]) with
              | true =>
                go_enter Try.func68, Try.ntmps68
                go_wp2
                go_ret
                exact ⟨rfl, rfl⟩
              | false =>
                cases t8 : (x == [105, 110]) with
                | true =>
                  go_enter Try.func68, Try.ntmps68
                  go_wp2
                  go_ret
                  exact ⟨rfl, rfl⟩
                | false =>
                  go_enter Try.func68, Try.ntmps68
                  go_wp2
                  go_ret
                  exact ⟨rfl, rfl⟩

/-- What an entry is, to the reference. -/
def thS : En → List UInt8
  | .blk _ => []
  | .brc => [123, 125]
  | .mk m => m.txt
def thC : En → Int
  | .blk c => c
  | _ => 0
def thV (e : En) : Value := .agg #[.string (bt (thS e)), .int .i64 (thC e)]

set_option maxHeartbeats 800000 in
set_option maxRecDepth 100000 in
theorem looseR_any (e : En) (w : World) : Calls Try.prog 97 #[thV e] w fun x w' => x = .returned (.bool e.loose) ∧ Below w.heap.size w w' := by
  have h : e.loose = (thS e == [] || thS e == [108, 101, 116]) := by
    cases e with
    | blk c => rfl
    | brc => rfl
    | mk m => cases m <;> rfl
  rw [h]
  unfold thV
  generalize thS e = y
  cases t1 : (y == []) <;> cases t2 : (y == [108, 101, 116])
  all_goals
    go_enter Try.func97, Try.ntmps97
    go_wp2
    go_ret
    exact ⟨rfl, below_alloc _ _⟩

/-- fits, on lists. -/
def fitsL (y x : List UInt8) : Bool :=
  if x == [41] then y == [40] else if x == [93] then y == [91] else if x == [125] then y == [123] || y == [123, 125] else if x == [44] then y == [40] || y == [91] || y == [123]
  else if x == [116, 104, 101, 110] then y == [105, 102] else if x == [101, 108, 115, 101] then y == [116, 104, 101, 110] else if x == [111, 102] then y == [99, 97, 115, 101] else x == [105, 110] && y == [108, 101, 116]
theorem fits_eq (e : En) (x : List UInt8) (hx : oneB cloA x = true) : fitsL (thS e) x = fitB x e := by
  simp [oneB, cloA] at hx
  rcases hx with rfl | rfl | rfl | rfl | rfl | rfl | rfl | rfl <;> (cases e with
    | blk c => rfl
    | brc => rfl
    | mk m => cases m <;> rfl)

set_option maxHeartbeats 1600000 in
set_option maxRecDepth 100000 in
theorem fits_any (y x : List UInt8) (w : World) : Calls Try.prog 96 #[.string (bt y), .string (bt x)] w fun e w' => e = .returned (.bool (fitsL y x)) ∧ w = w' := by
  unfold fitsL
  cases t1 : (x == [41]) with
  | true =>
    cases y1 : (y == [40])
    all_goals
      go_enter Try.func96, Try.ntmps96
      go_wp2
      go_ret
      exact ⟨by simp, rfl⟩
  | false =>
    cases t2 : (x == [93]) with
    | true =>
      cases y1 : (y == [91])
      all_goals
        go_enter Try.func96, Try.ntmps96
        go_wp2
        go_ret
        exact ⟨by simp, rfl⟩
    | false =>
      cases t3 : (x == [125]) with
      | true =>
        cases y1 : (y == [123]) <;> cases y2 : (y == [123, 125])
        all_goals
          go_enter Try.func96, Try.ntmps96
          go_wp2
          go_ret
          exact ⟨by simp, rfl⟩
      | false =>
        cases t4 : (x == [44]) with
        | true =>
          cases y1 : (y == [40]) <;> cases y2 : (y == [91]) <;> cases y3 : (y == [123])
          all_goals
            go_enter Try.func96, Try.ntmps96
            go_wp2
            go_ret
            exact ⟨by simp, rfl⟩
        | false =>
          cases t5 : (x == [116, 104, 101, 110]) with
          | true =>
            cases y1 : (y == [105, 102])
            all_goals
              go_enter Try.func96, Try.ntmps96
              go_wp2
              go_ret
              exact ⟨by simp, rfl⟩
          | false =>
            cases t6 : (x == [101, 108, 115, 101]) with
            | true =>
              cases y1 : (y == [116, 104, 101, 110])
              all_goals
                go_enter Try.func96, Try.ntmps96
                go_wp2
                go_ret
                exact ⟨by simp, rfl⟩
            | false =>
              cases t7 : (x == [111, 102]) with
              | true =>
                cases y1 : (y == [99, 97, 115, 101])
                all_goals
                  go_enter Try.func96, Try.ntmps96
                  go_wp2
                  go_ret
                  exact ⟨by simp, rfl⟩
              | false =>
                cases t8 : (x == [105, 110]) with
                | true =>
                  cases y1 : (y == [108, 101, 116])
                  all_goals
                    go_enter Try.func96, Try.ntmps96
                    go_wp2
                    go_ret
                    exact ⟨by simp, rfl⟩
                | false =>
                  go_enter Try.func96, Try.ntmps96
                  go_wp2
                  go_ret
                  exact ⟨by simp, rfl⟩
end

section
open Go.RowKit Lx
attribute [local go_sem] bt_size bt_get bt_list bt_toList bt_drop bt_take
attribute [local go_sem ↓] Go.wp_at_zero Go.wp_at_succ

def thCells (e : En) : List Value := [.string (bt (thS e)), .int .i64 (thC e)]
def thsCells : List En → List Value
  | [] => []
  | e :: r => thsCells r ++ thCells e
theorem th_one (e : En) : ∀ u ∈ thCells e, u.oneCell' = true := by
  intro u hu
  simp [thCells] at hu
  rcases hu with rfl | rfl <;> rfl
theorem ths_len : ∀ rs : List En, (thsCells rs).length = rs.length * 2
  | [] => rfl
  | e :: r => by simp [thsCells, ths_len r, thCells]; omega
theorem ths_take : ∀ (ab r : List En), (thsCells (ab ++ r)).take (r.length * 2) = thsCells r
  | [], r => by
    rw [List.nil_append, ← ths_len r, List.take_length]
  | e :: ab, r => by
    have h := ths_take ab r
    simp only [List.cons_append, thsCells]
    rw [List.take_append_of_le_length (by rw [ths_len]; simp; omega), h]
theorem ths_at (ab : List En) (e : En) (r : List En) (j : Nat) (hj : j < 2) : (thsCells (ab ++ e :: r))[r.length * 2 + j]? = (thCells e)[j]? := by
  have h := ths_take ab (e :: r)
  have hl : r.length * 2 + j < (e :: r).length * 2 := by simp; omega
  rw [← List.getElem?_take_of_lt hl, h, thsCells, List.getElem?_append_right (by rw [ths_len]; omega), ths_len]
  congr 1
  omega

/-- The reference's object holds the stack rs (its top ahead) and what has been laid. -/
structure RAt (w : World) (s : St) (rs : List En) (out : List Rt) : Prop where
  blk : ∃ l c n : Int, w.heap[s.g]? = some (.cells #[s.vo, s.ve, .string ⟨#[]⟩, .int .i64 l, .int .i64 c, .int .i64 n] 71 (0, 0))
  en : w.ownsRow (s.g + 1) 93 2 s.ve rs.length (thsCells rs)
  no : s.vr = .slice none 0 0
  ou : w.ownsRow (s.g + 1) 33 5 s.vo out.length (rtsCells out)

theorem RAt.g_lt {w : World} {s : St} {rs : List En} {out : List Rt} (h : RAt w s rs out) : s.g < w.heap.size := by
  obtain ⟨_, _, _, hb⟩ := h.blk
  exact (Array.getElem?_eq_some_iff.1 hb).1
theorem RAt.own_lt {w : World} {s : St} {rs : List En} {out : List Rt} (h : RAt w s rs out) {i : Nat} (hi : s.own i) : s.g ≤ i ∧ i < w.heap.size := by
  rcases hi with rfl | hi | hi | hi
  · exact ⟨Nat.le_refl _, h.g_lt⟩
  · have := h.en.lt i hi; omega
  · rw [h.no] at hi; cases hi
  · have := h.ou.lt i hi; omega
theorem RAt.fresh {w : World} {s : St} {rs : List En} {out : List Rt} (h : RAt w s rs out) {i : Nat} (hi : w.heap.size ≤ i) : ¬ s.own i := fun ho => by
  have := (h.own_lt ho).2; omega
theorem RAt.kept {w w' : World} {s : St} {rs : List En} {out : List Rt} (h : RAt w s rs out) (hk : ∀ i, s.own i → w'.heap[i]? = w.heap[i]?) : RAt w' s rs out := by
  obtain ⟨l, c, n, hb⟩ := h.blk
  exact ⟨⟨l, c, n, (hk _ (.inl rfl)).trans hb⟩, own_same h.en fun b hb => hk b (.inr (.inl hb)), h.no, own_same h.ou fun b hb => hk b (.inr (.inr (.inr hb)))⟩
theorem RAt.below {w w' : World} {s : St} {rs : List En} {out : List Rt} (h : RAt w s rs out) (hb : Below w.heap.size w w') : RAt w' s rs out :=
  h.kept fun i hi => hb.block i (h.own_lt hi).2
theorem RAt.cells {w : World} {s : St} {rs : List En} {out : List Rt} (h : RAt w s rs out) : w.cell? ⟨s.g, 0, none⟩ = some s.vo ∧ w.cell? ⟨s.g, 1, none⟩ = some s.ve := by
  obtain ⟨_, _, _, hb⟩ := h.blk
  simp [World.cell?, hb]
theorem RAt.frozen {w : World} {s : St} {rs : List En} {out : List Rt} (h : RAt w s rs out) (i : Nat) : w.frozen? ⟨s.g, i, none⟩ = false := by
  obtain ⟨_, _, _, hb⟩ := h.blk
  simp [World.frozen?, hb]
theorem BX.newR {w : World} {s : St} {rs : List En} {out : List Rt} (h : RAt w s rs out) (t : Rt) : BX s (w.alloc (boxT t)) w.heap.size t := ⟨boxAt_new w t, by simp, h.fresh (Nat.le_refl _)⟩

/-- What a method leaves. -/
def RPost (s : St) (w : World) (rs : List En) (out : List Rt) (v e : Ending) (w' : World) : Prop := e = v ∧ ∃ s', RAt w' s' rs out ∧ Step s s' w w'

theorem info_th : (Try.prog.info? 93).map (fun i => (i.zero, i.size, i.bytes)) = some (some (.agg #[.string ⟨#[]⟩, .int .i64 0]), 2, 24) := by kernel_rfl
theorem under_ths : Try.prog.underlying 69 = some (.slice 93) := by kernel_rfl

theorem robj_set {w : World} {g : Nat} {a b c d e f : Value} {T : TypeId} (h : w.heap[g]? = some (.cells #[a, b, c, d, e, f] T (0, 0))) (u : Value) :
    (w.setCell ⟨g, 0, none⟩ u).heap[g]? = some (.cells #[u, b, c, d, e, f] T (0, 0)) ∧ (w.setCell ⟨g, 1, none⟩ u).heap[g]? = some (.cells #[a, u, c, d, e, f] T (0, 0)) := by
  refine ⟨?_, ?_⟩ <;> simp [World.setCell, Array.getElem?_modify, h]

/-- What is left when a token was appended. -/
theorem rout_done {w W w1 : World} {s : St} {rs : List En} {out : List Rt} {t : Rt} {g cap : Nat} (h : RAt w s rs out) (hb : Below w.heap.size w W)
    (hown : w1.ownsRow (s.g + 1) 33 5 (.slice (some ⟨g, 0, none⟩) (out.length + 1) cap) (out.length + 1) (rtsCells out ++ rtCells t))
    (hgr : W.grownBy w1 s.vo.ownBlock) (hat : s.vo.ownBlock = some g ∨ g = W.heap.size) :
    ∃ s', s'.ve = s.ve ∧ RAt (w1.setCell ⟨s.g, 0, none⟩ (.slice (some ⟨g, 0, none⟩) (out.length + 1) cap)) s' rs (out ++ [t]) ∧ Step s s' w (w1.setCell ⟨s.g, 0, none⟩ (.slice (some ⟨g, 0, none⟩) (out.length + 1) cap)) := by
  have hbs := hb.size
  have hblk : ∀ i, i < w.heap.size → s.vo.ownBlock ≠ some i → w1.heap[i]? = w.heap[i]? := fun i hi hn => (hgr.block i (by omega) (fun e => hn e.symm)).trans (hb.block i hi)
  have hgo : s.vo.ownBlock ≠ some s.g := fun e => by have := (h.ou.lt _ e).1; omega
  obtain ⟨l, c, n, hbk⟩ := h.blk
  refine ⟨⟨s.g, s.ve, s.vr, .slice (some ⟨g, 0, none⟩) (out.length + 1) cap⟩, rfl, ⟨⟨l, c, n, (robj_set ((hblk _ h.g_lt hgo).trans hbk) _).1⟩, ?_, h.no, ?_⟩, ?_⟩
  · exact own_set (own_same h.en fun b hb => hblk b (h.en.lt b hb).2 (ne_of (own_ne h.en h.ou (by decide)) hb)) (Nat.lt_succ_self _) _ _
  · exact own_set (by rw [rtsCells_snoc, List.length_append]; exact hown) (Nat.lt_succ_self _) _ _
  · refine ⟨rfl, hgr.os.trans hb.os, hgr.tape.trans hb.tape, hgr.output.trans hb.output, by rw [size_set]; have := hgr.size; omega, fun i hi hn => ⟨?_, ?_⟩⟩
    · rw [heap_set_other _ _ _ _ _ (fun e => hn (.inl e))]
      exact hblk i hi (fun e => hn (.inr (.inr (.inr e))))
    · rintro (e | e | e | e)
      · exact hn (.inl e)
      · exact hn (.inr (.inl e))
      · exact hn (.inr (.inr (.inl e)))
      · injection e with e
        rcases hat with hx | hx
        · exact hn (.inr (.inr (.inr (hx.trans (congrArg some e)))))
        · simp at e; omega
/-- What is left when an entry was pushed. -/
theorem rstk_done {w W w1 : World} {s : St} {rs : List En} {out : List Rt} {t : En} {g cap : Nat} (h : RAt w s rs out) (hb : Below w.heap.size w W)
    (hown : w1.ownsRow (s.g + 1) 93 2 (.slice (some ⟨g, 0, none⟩) (rs.length + 1) cap) (rs.length + 1) (thsCells rs ++ thCells t))
    (hgr : W.grownBy w1 s.ve.ownBlock) (hat : s.ve.ownBlock = some g ∨ g = W.heap.size) :
    ∃ s', RAt (w1.setCell ⟨s.g, 1, none⟩ (.slice (some ⟨g, 0, none⟩) (rs.length + 1) cap)) s' (t :: rs) out ∧ Step s s' w (w1.setCell ⟨s.g, 1, none⟩ (.slice (some ⟨g, 0, none⟩) (rs.length + 1) cap)) := by
  have hbs := hb.size
  have hblk : ∀ i, i < w.heap.size → s.ve.ownBlock ≠ some i → w1.heap[i]? = w.heap[i]? := fun i hi hn => (hgr.block i (by omega) (fun e => hn e.symm)).trans (hb.block i hi)
  have hgo : s.ve.ownBlock ≠ some s.g := fun e => by have := (h.en.lt _ e).1; omega
  obtain ⟨l, c, n, hbk⟩ := h.blk
  refine ⟨⟨s.g, .slice (some ⟨g, 0, none⟩) (rs.length + 1) cap, s.vr, s.vo⟩, ⟨⟨l, c, n, (robj_set ((hblk _ h.g_lt hgo).trans hbk) _).2⟩, ?_, h.no, ?_⟩, ?_⟩
  · exact own_set hown (Nat.lt_succ_self _) _ _
  · exact own_set (own_same h.ou fun b hb => hblk b (h.ou.lt b hb).2 (ne_of (own_ne h.ou h.en (by decide)) hb)) (Nat.lt_succ_self _) _ _
  · refine ⟨rfl, hgr.os.trans hb.os, hgr.tape.trans hb.tape, hgr.output.trans hb.output, by rw [size_set]; have := hgr.size; omega, fun i hi hn => ⟨?_, ?_⟩⟩
    · rw [heap_set_other _ _ _ _ _ (fun e => hn (.inl e))]
      exact hblk i hi (fun e => hn (.inr (.inl e)))
    · rintro (e | e | e | e)
      · exact hn (.inl e)
      · injection e with e
        rcases hat with hx | hx
        · exact hn (.inr (.inl (hx.trans (congrArg some e))))
        · simp at e; omega
      · exact hn (.inr (.inr (.inl e)))
      · exact hn (.inr (.inr (.inr e)))
/-- What is left when the stack was cut. -/
theorem rcut_done {w : World} {s : St} {ab rs : List En} {out : List Rt} {q cap n : Nat} (h : RAt w s (ab ++ rs) out) (hv : s.ve = .slice (some ⟨q, 0, none⟩) n cap) (hn : n = (ab ++ rs).length) (k : Nat) (hk : k = rs.length) :
    RAt (w.setCell ⟨s.g, 1, none⟩ (.slice (some ⟨q, 0, none⟩) k cap)) ⟨s.g, .slice (some ⟨q, 0, none⟩) k cap, s.vr, s.vo⟩ rs out ∧ Step s ⟨s.g, .slice (some ⟨q, 0, none⟩) k cap, s.vr, s.vo⟩ w (w.setCell ⟨s.g, 1, none⟩ (.slice (some ⟨q, 0, none⟩) k cap)) := by
  subst hk hn
  obtain ⟨l, c, n, hbk⟩ := h.blk
  have hE := h.en
  rw [hv] at hE
  have hC := own_cut hE (show rs.length ≤ (ab ++ rs).length by simp)
  rw [ths_take] at hC
  refine ⟨⟨⟨l, c, n, (robj_set hbk _).2⟩, own_set hC (Nat.lt_succ_self _) _ _, h.no, own_set h.ou (Nat.lt_succ_self _) _ _⟩, ?_⟩
  refine (Step.refl s w).set 1 _ _ rfl (fun k _ hk ho => hk ?_)
  rcases ho with ho | ho | ho | ho
  · exact .inl ho
  · exact .inr (.inl (by rw [hv]; exact ho))
  · exact .inr (.inr (.inl ho))
  · exact .inr (.inr (.inr ho))

/-- The stack's slice and an entry's cells. -/
theorem rent_cells {w : World} {s : St} {ab r : List En} {e : En} {out : List Rt} (h : RAt w s (ab ++ e :: r) out) : ∃ q cap, s.ve = .slice (some ⟨q, 0, none⟩) (ab.length + r.length + 1) cap ∧ ab.length + r.length + 1 ≤ cap ∧ cap ≤ maxLen ∧ q < w.heap.size ∧
    w.cell? ⟨q, r.length * 2, none⟩ = some (.string (bt (thS e))) ∧ w.cell? ⟨q, r.length * 2 + 1, none⟩ = some (.int .i64 (thC e)) := by
  rcases own_forms h.en with ⟨_, h0⟩ | ⟨q, cap, hv, hc, hm⟩
  · simp at h0
  · have hr := h.en
    have hl : (ab ++ e :: r).length = ab.length + r.length + 1 := by simp; omega
    rw [hl] at hv hc hr
    rw [hv] at hr
    have hlt := hr.lt q rfl
    have key : ∀ j, j < 2 → w.cell? ⟨q, r.length * 2 + j, none⟩ = (thCells e)[j]? := fun j hj => by
      rw [hr.cellAt (r.length * 2 + j) (by omega), ths_at ab e r j hj]
    exact ⟨q, cap, hv, hc, hm, hlt.2, key 0 (by omega), key 1 (by omega)⟩

theorem frozen_al2R {w W : World} {g i : Nat} (hb : Below w.heap.size w W) (hg : g < w.heap.size) (h : w.frozen? ⟨g, i, none⟩ = false) : W.frozen? ⟨g, i, none⟩ = false := (hb.frozen (p := ⟨g, i, none⟩) hg).trans h

set_option maxHeartbeats 2000000 in
set_option maxRecDepth 100000 in
theorem layR_e (w : World) (s : St) (rs : List En) (out : List Rt) (x : List UInt8) (t : Rt) (h : RAt w s rs out) (hn : out.length ≤ 10000000) :
    Calls Try.prog 40 #[.pointer (some ⟨s.g, 0, none⟩), .string (bt x), tokV t] w fun e w' => e = .returned (.tuple #[]) ∧ ∃ s', s'.ve = s.ve ∧ RAt w' s' rs (out ++ [insT x t]) ∧ Step s s' w w' := by
  obtain ⟨i0, hi, hz0, hz1, hz2⟩ := info_parts info_rt
  have HL := Lib.hid h
  have hg := h.g_lt
  obtain ⟨c0, c1⟩ := h.cells
  have f0 := h.frozen 0
  have hgo : some s.g ≠ s.vo.ownBlock := fun e => by have := (h.ou.lt _ e.symm).1; omega
  have HGO := Lib.hid hgo
  have hbase : s.g + 1 ≤ w.heap.size + 2 := by omega
  clear h c1 hgo
  unfold tokV
  go_enter Try.func40, Try.ntmps40
  go_wp2
  go_region_law ((refine step_append_lies _ (by rfl) _ _ _ (by rfl) (s.g + 1) 33 i0 _ 5 48 under_rts hi hz0 hz1 hz2 rfl (by omega) s.vo out.length (rtsCells out) (by rfl) (by exact ((HL.out.ou.alloc _).drew).alloc _) ⟨w.heap.size + 1, 0, none⟩ 1 1 (rtCells (insT x t)) (by rfl) (by rfl) (by exact rt_news2 w _ (insT x t)) (rt_one _) (by omega) (by simp [maxLen]; omega) (by omega) (by simp; omega) _ rfl ?_; intro gg cap w1 hown hgrow hat hlt; have F2 : w1.frozen? ⟨s.g, 0, none⟩ = false := (hgrow.frozen_far ⟨s.g, 0, none⟩ (by simp; omega) HGO.out).trans (frozen_al2 w _ _ hg f0); have C2 : w1.cell? ⟨s.g, 0, none⟩ = some s.vo := (hgrow.cell_far ⟨s.g, 0, none⟩ (by simp; omega) HGO.out).trans (cell_al2 w _ _ hg c0); have HOwn := Lib.hid hown; have HGrow := Lib.hid hgrow; have HAt := Lib.hid hat; clear hown hgrow hat))
  all_goals
    go_wp2
    go_end0
    exact ⟨rfl, rout_done HL.out ((((Below.refl _ _).alloc (Nat.le_refl _) _).drew).alloc (show w.heap.size ≤ (w.alloc _).heap.size by simp) _) HOwn.out HGrow.out HAt.out⟩
end

section
open Go.RowKit Lx
attribute [local go_sem] bt_size bt_get bt_list bt_toList bt_drop bt_take
attribute [local go_sem ↓] Go.wp_at_zero Go.wp_at_succ

theorem rstk_form {w : World} {s : St} {rs : List En} {out : List Rt} (h : RAt w s rs out) : ∃ ao cap, s.ve = .slice ao rs.length cap := by
  rcases own_forms h.en with ⟨hv, h0⟩ | ⟨q, cap, hv, _⟩
  · exact ⟨none, 0, by rw [hv, h0]⟩
  · exact ⟨_, cap, hv⟩
theorem th_empty (e : En) : (thS e == []) = e.isBlk := by
  cases e with
  | blk c => rfl
  | brc => rfl
  | mk m => cases m <;> rfl
theorem th_let (e : En) : (thS e == [108, 101, 116]) = (e.loose && !e.isBlk) := by
  cases e with
  | blk c => rfl
  | brc => rfl
  | mk m => cases m <;> rfl

set_option maxHeartbeats 1000000 in
set_option maxRecDepth 100000 in
theorem blockR_any (w : World) (s : St) (rs : List En) (out : List Rt) (h : RAt w s rs out) (hn : rs.length ≤ 10000000) :
    Calls Try.prog 66 #[.pointer (some ⟨s.g, 0, none⟩)] w fun e w' => e = .returned (.int .i64 (rcB rs)) ∧ w = w' := by
  have HL := Lib.hid h
  have hg := h.g_lt
  obtain ⟨_, c1⟩ := h.cells
  obtain ⟨ao, cap, hv⟩ := rstk_form h
  rw [hv] at c1
  have HV := Lib.hid hv
  clear h hv
  go_enter Try.func66, Try.ntmps66
  go_wp2
  go_loop [3] (fun i => ∃ ab r, rs = ab ++ r ∧ i = .int .i64 ((r.length : Int) - 1) ∧ rcB rs = rcB r) (fun i => (intOf i + 1).toNat)
  case atStart => exact ⟨[], rs, rfl, rfl, rfl⟩
  case round =>
    obtain ⟨ab, r, hsp, rfl, hrc⟩ := hrel
    cases r with
    | nil =>
      have HR := Lib.hid hrc
      clear hrc hsp
      have hm1 : (([] : List En).length : Int) - 1 = -1 := rfl
      rw [hm1]
      go_wp2
      go_ret
      exact ⟨by rw [HR.out]; rfl, rfl⟩
    | cons e r =>
      have hlen : (((e :: r).length : Nat) : Int) - 1 = (r.length : Int) := by simp
      rw [hlen]
      have HLs := HL.out
      rw [hsp] at HLs
      obtain ⟨q, cap', hv', hc', hm, hq, k0, k1⟩ := rent_cells HLs
      have hlr : rs.length = ab.length + r.length + 1 := by rw [hsp]; simp; omega
      rw [HV.out] at hv'
      injection hv' with h1 h2 h3
      subst h1 h3
      have hrl : (r.length : Int) < (rs.length : Int) := by omega
      have HR := Lib.hid hrc
      have HS := Lib.hid hsp
      clear hrc hsp HLs k1 h2
      have he := th_empty e
      have hb : (thS e == [123, 125]) = (e == .brc) := by
        cases e with
        | blk c => rfl
        | brc => rfl
        | mk m => cases m <;> rfl
      obtain ⟨n, hnr⟩ : ∃ n, n = r.length := ⟨_, rfl⟩
      rw [← hnr] at k0 hrl ⊢
      have HNr := Lib.hid hnr
      have HLr := Lib.hid hlr
      clear hnr hlr hlen
      generalize thS e = y at *
      cases e with
      | blk c =>
        have he : (y == []) = true := he
        go_wp2
        go_ret
        exact ⟨by rw [HR.out, HNr.out]; rfl, rfl⟩
      | brc =>
        have he : (y == []) = false := he
        have hb : (y == [123, 125]) = true := hb
        go_wp2
        go_ret
        exact ⟨by rw [HR.out]; rfl, rfl⟩
      | mk m =>
        have he : (y == []) = false := he
        have hb : (y == [123, 125]) = false := hb
        go_wp2
        go_round
        case rel => exact ⟨ab ++ [.mk m], r, by rw [HS.out]; simp, by rw [← HNr.out], by rw [HR.out]; rfl⟩
        case measure => simp [intOf]

theorem rabove_cells {w : World} {s : St} {ab r : List En} {e : En} {out : List Rt} {q cap : Nat} (h : RAt w s (ab ++ e :: r) out) (hv : s.ve = .slice (some ⟨q, 0, none⟩) (ab.length + r.length + 1) cap) :
    ∀ k (hk : k < ab.reverse.length), w.cell? ⟨q, (r.length + 1 + k) * 2, none⟩ = some (.string (bt (thS ab.reverse[k]))) ∧ w.cell? ⟨q, (r.length + 1 + k) * 2 + 1, none⟩ = some (.int .i64 (thC ab.reverse[k])) := by
  intro k hk
  have hk' : k < ab.length := by simpa using hk
  have hi : ab.length - 1 - k < ab.length := by omega
  have hsp : ab ++ e :: r = ab.take (ab.length - 1 - k) ++ ab[ab.length - 1 - k] :: (ab.drop (ab.length - 1 - k + 1) ++ e :: r) := by
    rw [← List.cons_append, ← List.append_assoc, List.getElem_cons_drop, List.take_append_drop]
  have hlen : (ab.drop (ab.length - 1 - k + 1) ++ e :: r).length = r.length + 1 + k := by simp; omega
  have hr := h.en
  have hl : (ab ++ e :: r).length = ab.length + r.length + 1 := by simp; omega
  rw [hl, hv] at hr
  have key : ∀ j, j < 2 → w.cell? ⟨q, (r.length + 1 + k) * 2 + j, none⟩ = (thCells ab[ab.length - 1 - k])[j]? := fun j hj => by
    rw [hr.cellAt ((r.length + 1 + k) * 2 + j) (by omega)]
    rw [hsp, ← hlen]
    exact ths_at _ _ _ j hj
  have he : ab.reverse[k] = ab[ab.length - 1 - k] := by rw [List.getElem_reverse]
  rw [he]
  exact ⟨key 0 (by omega), key 1 (by omega)⟩

/-- At the head of each round of only's loop. -/
def OnRel (w : World) (ab : List En) (n : Nat) (i : Value) (wr : World) : Prop :=
  ∃ k : Nat, k ≤ ab.length ∧ i = .int .i64 ((n : Int) + 1 + k) ∧ (ab.reverse.take k).all En.loose = true ∧ Below w.heap.size w wr

set_option maxHeartbeats 1000000 in
set_option maxRecDepth 100000 in
theorem onlyR_any (w : World) (s : St) (ab r : List En) (e : En) (out : List Rt) (g n : Nat) (hg0 : s.g = g) (hn0 : n = r.length) (h : RAt w s (ab ++ e :: r) out) (hn : ab.length + r.length ≤ 9000000) :
    Calls Try.prog 69 #[.pointer (some ⟨g, 0, none⟩), .int .i64 (n : Int)] w fun x w' => x = .returned (.bool (ab.all En.loose)) ∧ Below w.heap.size w w' := by
  subst hg0 hn0
  have hg := h.g_lt
  obtain ⟨_, c1⟩ := h.cells
  obtain ⟨q, cap, hv, hc, hm, hq, _, _⟩ := rent_cells h
  have HC := Lib.hid (rabove_cells h hv)
  rw [hv] at c1
  clear h hv
  generalize r.length = n at *
  go_enter Try.func69, Try.ntmps69
  go_wp2
  go_loopw [5] (fun i wr => OnRel w ab n i wr) (fun i _ => (((ab.length + n + 1 : Nat) : Int) - intOf i).toNat)
  case atStart => exact ⟨0, Nat.zero_le _, by simp, by simp, Below.refl _ _⟩
  case round =>
    obtain ⟨k, hk, rfl, hall, hbel⟩ := hrel
    have HA := Lib.hid hall
    have HB := Lib.hid hbel
    have hwz := hbel.size
    have d1 := (hbel.cell (p := ⟨s.g, 1, none⟩) hg).trans c1
    have hgr : s.g < wr.heap.size := by omega
    have hqr : q < wr.heap.size := by omega
    by_cases hlt : k < ab.length
    · have hkr : k < ab.reverse.length := by simpa using hlt
      obtain ⟨k0, k1⟩ := HC.out k hkr
      have e0 := (hbel.cell (p := ⟨q, (n + 1 + k) * 2, none⟩) hq).trans k0
      have e1 := (hbel.cell (p := ⟨q, (n + 1 + k) * 2 + 1, none⟩) hq).trans k1
      have HTk := Lib.hid (List.take_succ_eq_append_getElem hkr)
      have HAll := Lib.hid (show ab.reverse[k] ∈ ab by rw [← List.mem_reverse]; exact List.getElem_mem hkr)
      clear k0 k1 hall hbel
      revert e0 e1 HTk HAll
      generalize ab.reverse[k] = x
      intro e0 e1 HTk HAll
      clear hkr
      obtain ⟨i, hi⟩ : ∃ i : Nat, i = n + 1 + k := ⟨_, rfl⟩
      have hint : (n : Int) + 1 + k = (i : Int) := by omega
      rw [← hi] at e0 e1
      rw [hint]
      have hil : (i : Int) < ((ab.length + n + 1 : Nat) : Int) := by omega
      have hil' : (i : Int) < (ab.length : Int) + n + 1 := by omega
      have HI := Lib.hid hi
      clear hi hint
      go_wp2_with fail
      refine (show Calls Try.prog 97 #[.agg #[.string (bt (thS x)), .int .i64 (thC x)]] wr _ from (looseR_any x wr)).mono ?_
      rintro e2 w2 ⟨rfl, hb2⟩
      have HB2 := Lib.hid (blwS HB.out hb2 hwz)
      clear hb2 e0 e1
      cases hlo : x.loose with
      | false =>
        go_wp2
        go_ret
        refine ⟨?_, HB2.out⟩
        have : ab.all En.loose = false := by rw [List.all_eq_false]; exact ⟨x, HAll.out, by rw [hlo]; exact Bool.false_ne_true⟩
        rw [this]; rfl
      | true =>
        go_wp2
        go_roundw
        case rel =>
          refine ⟨k + 1, by omega, by have := HI.out; go_num, ?_, HB2.out⟩
          rw [HTk.out, List.all_append, HA.out]
          simp [hlo]
        case measure => have := HI.out; simp [intOf]; omega
    · obtain rfl : k = ab.length := by omega
      have hall' : ab.all En.loose = true := by
        have := HA.out
        rwa [List.take_of_length_le (by simp), List.all_reverse] at this
      have HAl := Lib.hid hall'
      clear hall'
      have hge : ¬ (n : Int) + 1 + ab.length < (ab.length : Int) + n + 1 := by omega
      clear hall hbel
      go_wp2
      go_ret
      exact ⟨by rw [HAl.out]; rfl, HB.out⟩
end

section
open Go.RowKit Lx
attribute [local go_sem] bt_size bt_get bt_list bt_toList bt_drop bt_take
attribute [local go_sem ↓] Go.wp_at_zero Go.wp_at_succ

theorem layR_g (w : World) (s : St) (rs : List En) (out : List Rt) (x : List UInt8) (t : Rt) (g : Nat) (hg : s.g = g) (h : RAt w s rs out) (hn : out.length ≤ 10000000) :
    Calls Try.prog 40 #[.pointer (some ⟨g, 0, none⟩), .string (bt x), tokV t] w fun e w' => e = .returned (.tuple #[]) ∧ ∃ s', s'.ve = s.ve ∧ RAt w' s' rs (out ++ [insT x t]) ∧ Step s s' w w' := by
  subst hg; exact layR_e w s rs out x t h hn
theorem blockR_g (w : World) (s : St) (rs : List En) (out : List Rt) (g : Nat) (hg : s.g = g) (h : RAt w s rs out) (hn : rs.length ≤ 10000000) :
    Calls Try.prog 66 #[.pointer (some ⟨g, 0, none⟩)] w fun e w' => e = .returned (.int .i64 (rcB rs)) ∧ w = w' := by
  subst hg; exact blockR_any w s rs out h hn

/-- What is wrong, as the object keeps it. -/
def RBad (s : St) (w : World) (t : Rt) (w' : World) : Prop :=
  ∃ s' a b, w'.heap[s.g]? = some (.cells #[a, b, .string ⟨#[]⟩, .int .i64 t.line, .int .i64 t.col, .int .i64 20] 71 (0, 0)) ∧ Step s s' w w'
/-- What line leaves: the stack and what is laid; or what is wrong. -/
def RLine (s : St) (w : World) (out : List Rt) (t : Rt) (x : Option (List En × List Rt)) (e : Ending) (w' : World) : Prop :=
  match x with
  | none => e = .returned (.bool false) ∧ RBad s w t w'
  | some (r, o) => e = .returned (.bool true) ∧ ∃ s', RAt w' s' r (out ++ o) ∧ Step s s' w w'

/-- At the head of each round. -/
def RLRel (s : St) (w : World) (b : Nat) (t : Rt) (col : Int) (rs : List En) (out : List Rt) (k : Nat) (wr : World) : Prop :=
  ∃ (s1 : St) (r1 : List En) (o1 : List Rt), RAt wr s1 r1 (out ++ o1) ∧ Step s s1 w wr ∧ BX s1 wr b t ∧ r1.length < k ∧ r1.length + (out ++ o1).length ≤ 9000000 ∧ lnL t col (rs.length + 1) rs = putO o1 (lnL t col k r1)

theorem bad_set {w : World} {g : Nat} {a b c d e f : Value} {T : TypeId} (h : w.heap[g]? = some (.cells #[a, b, c, d, e, f] T (0, 0))) (u v x y : Value) :
    ((((w.setCell ⟨g, 2, none⟩ u).setCell ⟨g, 3, none⟩ v).setCell ⟨g, 4, none⟩ x).setCell ⟨g, 5, none⟩ y).heap[g]? = some (.cells #[a, b, u, v, x, y] T (0, 0)) := by
  simp [World.setCell, Array.getElem?_modify, h]
theorem bad_done {w0 w : World} {s s1 : St} {rs : List En} {out : List Rt} {t : Rt} (h : RAt w s1 rs out) (hs : Step s s1 w0 w) :
    RBad s w0 t ((((w.setCell ⟨s.g, 2, none⟩ (.string ⟨#[]⟩)).setCell ⟨s.g, 3, none⟩ (.int .i64 t.line)).setCell ⟨s.g, 4, none⟩ (.int .i64 t.col)).setCell ⟨s.g, 5, none⟩ (.int .i64 20)) := by
  obtain ⟨l, c, n, hb⟩ := h.blk
  have hg := hs.g
  rw [hg] at hb
  refine ⟨s1, _, _, bad_set hb _ _ _ _, ?_⟩
  rw [← hg]
  exact (((hs.set 2 _ s1 rfl (fun _ _ h => h)).set 3 _ s1 rfl (fun _ _ h => h)).set 4 _ s1 rfl (fun _ _ h => h)).set 5 _ s1 rfl (fun _ _ h => h)

set_option maxHeartbeats 4000000 in
set_option maxRecDepth 100000 in
theorem lineR_any (w : World) (s : St) (rs : List En) (out : List Rt) (t : Rt) (col : Int) (hgood : GoodT t) (h : RAt w s rs out) (hn : rs.length + out.length ≤ 9000000) :
    Calls Try.prog 41 #[.pointer (some ⟨s.g, 0, none⟩), tokV t, .int .i64 col] w fun e w' => RLine s w out t (lnL t col (rs.length + 1) rs) e w' := by
  have HL0 := Lib.hid (h.below (below_alloc w (boxT t)))
  have HS0 := Lib.hid (Step.of_below s (below_alloc w (boxT t)))
  have HX0 := Lib.hid (BX.newR h t)
  have HGd := Lib.hid (good_clo hgood)
  have hg0 := h.g_lt
  have hne0 : w.heap.size ≠ s.g := by omega
  have hne1 : s.g ≠ w.heap.size := by omega
  clear h hgood
  unfold tokV
  go_enter Try.func41, Try.ntmps41
  go_wp2
  go_loopg [] (rs.length + 1) (fun k wr => RLRel s w w.heap.size t col rs out k wr)
  case atStart => exact ⟨s, rs, [], by rw [List.append_nil]; exact HL0.out, HS0.out, HX0.out, Nat.lt_succ_self _, by simpa using hn, by cases lnL t col (rs.length + 1) rs <;> rfl⟩
  case round =>
    obtain ⟨⟨g1, ve, vr, vo⟩, r1, o1, hl, hs, hx, hk, hbd, heq⟩ := hrel
    obtain rfl : g1 = s.g := hs.g
    obtain ⟨k, rfl⟩ : ∃ k, gk = k + 1 := ⟨gk - 1, by omega⟩
    have HL := Lib.hid hl
    have HS := Lib.hid hs
    have HX := Lib.hid hx
    have HE := Lib.hid heq
    have hgl : s.g < wr.heap.size := hl.g_lt
    clear hl hs hx heq
    cases hc : curC r1 with
    | none =>
      have hb := cur_none r1 hc
      have HN := Lib.hid (ln_none (t := t) (col := col) (k := k) hc)
      clear hc
      go_wp2_with fail
      refine (blockR_g wr ⟨s.g, _, vr, vo⟩ r1 _ s.g rfl HL.out (by omega)).mono ?_
      rintro e w2 ⟨rfl, rfl⟩
      rw [hb]
      clear hb
      go_wp2
      go_ret
      unfold RLine
      rw [HE.out, HN.out]
      exact ⟨rfl, _, by simpa using HL.out, HS.out⟩
    | some c =>
      obtain ⟨ab, h1, h2, h3, h4⟩ := cur_split r1 c hc
      have HC := Lib.hid hc
      have HLs := HL.out
      rw [h1] at HLs
      obtain ⟨q, cap, hv, hcap, hm, hq, k0, k1⟩ := rent_cells HLs
      obtain rfl : ve = .slice (some ⟨q, 0, none⟩) (ab.length + (curR r1).length + 1) cap := hv
      have c1 : wr.cell? ⟨s.g, 1, none⟩ = some (.slice (some ⟨q, 0, none⟩) (ab.length + (curR r1).length + 1) cap) := HL.out.cells.2
      have f1 : wr.frozen? ⟨s.g, 1, none⟩ = false := HL.out.frozen 1
      have k1 : wr.cell? ⟨q, (curR r1).length * 2 + 1, none⟩ = some (.int .i64 c) := k1
      have hl1 : (curR r1).length + ab.length ≤ 9000000 := by have := congrArg List.length h1; simp at this; omega
      have H1 := Lib.hid h1
      have H3 := Lib.hid h3
      clear hc h1 h3 h4 HLs k0
      have HL1 := Lib.hid (show RAt wr _ (ab ++ .blk c :: curR r1) (out ++ o1) from by rw [← H1.out]; exact HL.out)
      have hr1 : r1.length = ab.length + (curR r1).length + 1 := by have := congrArg List.length H1.out; simp at this; omega
      have HR1 := Lib.hid hr1
      have hkn : (curR r1).length < k := by omega
      have hobd : (out ++ o1).length + (curR r1).length + ab.length + 1 ≤ 9000000 := by omega
      obtain ⟨n, hn'⟩ : ∃ n, n = (curR r1).length := ⟨_, rfl⟩
      rw [← hn'] at c1 hl1 k1 hcap HL1 HL HS HX hkn hobd
      have H2 := Lib.hid (show rcB r1 = (n : Int) by rw [h2, hn'])
      have HN' := Lib.hid hn'
      clear hr1 h2 hn'
      by_cases hA : c < col
      · have HN := Lib.hid (ln_stay (t := t) (k := k) HC.out (.inl hA))
        go_wp2_with fail
        refine (blockR_g wr ⟨s.g, _, vr, vo⟩ r1 _ s.g rfl HL.out (by have := HR1.out; omega)).mono ?_
        rintro e w2 ⟨rfl, rfl⟩
        rw [H2.out]
        go_wp2
        go_ret
        unfold RLine
        rw [HE.out, HN.out]
        exact ⟨rfl, _, by simpa using HL.out, HS.out⟩
      · by_cases hEq : col = c
        · subst hEq
          clear hA
          cases hclo : cloB t with
          | true =>
            have HN := Lib.hid (ln_stay (k := k) HC.out (.inr ⟨rfl, hclo⟩))
            go_wp2_with fail
            refine (blockR_g wr ⟨s.g, _, vr, vo⟩ r1 _ s.g rfl HL.out (by have := HR1.out; omega)).mono ?_
            rintro e w2 ⟨rfl, rfl⟩
            rw [H2.out]
            obtain ⟨x0, x1, x2, x3, x4⟩ := HX.out.at_
            have hbw := HX.out.lt
            go_wp2_with fail
            refine (show Calls Try.prog 39 #[.agg #[.int .i64 t.kind, .string (bt t.text), .int .i64 t.n, .int .i64 t.line, .int .i64 t.col]] wr _ from wordR_any t wr).mono ?_
            rintro e w3 ⟨rfl, hb3⟩
            have HL3 := Lib.hid (HL1.out.below hb3)
            have HS3 := Lib.hid (HS.out.trans (.of_below _ hb3))
            have HX3 := Lib.hid (HX.out.below hb3)
            have d1 := (hb3.cell (p := ⟨s.g, 1, none⟩) hgl).trans c1
            have dk := (hb3.cell (p := ⟨q, n * 2 + 1, none⟩) hq).trans k1
            have df := (hb3.frozen (p := ⟨s.g, 1, none⟩) hgl).trans f1
            have hg3 : s.g < w3.heap.size := Nat.lt_of_lt_of_le hgl hb3.size
            have hq3 : q < w3.heap.size := Nat.lt_of_lt_of_le hq hb3.size
            clear hb3 c1 k1 f1 x0 x1 x2 x3 x4 hbw
            go_wp2_with fail
            refine (closer_any (wdL t) w3).mono ?_
            rintro e w4 ⟨rfl, rfl⟩
            rw [HGd.out, hclo]
            go_wp2
            go_ret
            unfold RLine
            rw [HE.out, HN.out]
            exact ⟨rfl, _, by have := HL3.out; rw [← H1.out] at this; simpa using this, HS3.out⟩
          | false =>
            cases hlo : curL r1 with
            | false =>
              have HN := Lib.hid (ln_bad (k := k) HC.out (Int.lt_irrefl _) (fun _ => hclo) hlo)
              go_wp2_with fail
              refine (blockR_g wr ⟨s.g, _, vr, vo⟩ r1 _ s.g rfl HL.out (by have := HR1.out; omega)).mono ?_
              rintro e w2 ⟨rfl, rfl⟩
              rw [H2.out]
              obtain ⟨x0, x1, x2, x3, x4⟩ := HX.out.at_
              have hbw := HX.out.lt
              go_wp2_with fail
              refine (show Calls Try.prog 39 #[.agg #[.int .i64 t.kind, .string (bt t.text), .int .i64 t.n, .int .i64 t.line, .int .i64 t.col]] wr _ from wordR_any t wr).mono ?_
              rintro e w3 ⟨rfl, hb3⟩
              have HL3 := Lib.hid (HL1.out.below hb3)
              have HS3 := Lib.hid (HS.out.trans (.of_below _ hb3))
              have HX3 := Lib.hid (HX.out.below hb3)
              have d1 := (hb3.cell (p := ⟨s.g, 1, none⟩) hgl).trans c1
              have dk := (hb3.cell (p := ⟨q, n * 2 + 1, none⟩) hq).trans k1
              have df := (hb3.frozen (p := ⟨s.g, 1, none⟩) hgl).trans f1
              have hg3 : s.g < w3.heap.size := Nat.lt_of_lt_of_le hgl hb3.size
              have hq3 : q < w3.heap.size := Nat.lt_of_lt_of_le hq hb3.size
              clear hb3 c1 k1 f1 x0 x1 x2 x3 x4 hbw
              go_wp2_with fail
              refine (closer_any (wdL t) w3).mono ?_
              rintro e w4 ⟨rfl, rfl⟩
              rw [HGd.out, hclo]
              go_wp2_with fail
              refine (onlyR_any w3 ⟨s.g, _, vr, vo⟩ ab (curR r1) (.blk col) _ s.g n rfl HN'.out HL3.out (by rw [← HN'.out]; omega)).mono ?_
              rintro e w5 ⟨rfl, hb5⟩
              rw [H3.out, hlo]
              have HL5 := Lib.hid (HL3.out.below hb5)
              have HS5 := Lib.hid (HS3.out.trans (.of_below _ hb5))
              have HX5 := Lib.hid (HX3.out.below hb5)
              have c1 := (hb5.cell (p := ⟨s.g, 1, none⟩) hg3).trans d1
              have k1 := (hb5.cell (p := ⟨q, n * 2 + 1, none⟩) hq3).trans dk
              have f1 := (hb5.frozen (p := ⟨s.g, 1, none⟩) hg3).trans df
              have hg5 : s.g < w5.heap.size := Nat.lt_of_lt_of_le hg3 hb5.size
              have hq5 : q < w5.heap.size := Nat.lt_of_lt_of_le hq3 hb5.size
              clear hb5 d1 dk df
              obtain ⟨x0, x1, x2, x3, x4⟩ := HX5.out.at_
              have hbw := HX5.out.lt
              have z2 : ∀ i, w5.frozen? ⟨s.g, i, none⟩ = false := fun i => HL5.out.frozen i
              obtain ⟨l0, c0, n0, hblk⟩ := HL5.out.blk
              have y2 : w5.cell? ⟨s.g, 2, none⟩ = some (.string ⟨#[]⟩) := by simp [World.cell?, hblk]
              have y3 : w5.cell? ⟨s.g, 3, none⟩ = some (.int .i64 l0) := by simp [World.cell?, hblk]
              have y4 : w5.cell? ⟨s.g, 4, none⟩ = some (.int .i64 c0) := by simp [World.cell?, hblk]
              have y5 : w5.cell? ⟨s.g, 5, none⟩ = some (.int .i64 n0) := by simp [World.cell?, hblk]
              clear hblk
              go_wp2
              go_ret
              unfold RLine
              rw [HE.out, HN.out]
              exact ⟨rfl, bad_done HL5.out HS5.out⟩
            | true =>
              have HN := Lib.hid (ln_semi (k := k) HC.out hclo hlo)
              go_wp2_with fail
              refine (blockR_g wr ⟨s.g, _, vr, vo⟩ r1 _ s.g rfl HL.out (by have := HR1.out; omega)).mono ?_
              rintro e w2 ⟨rfl, rfl⟩
              rw [H2.out]
              obtain ⟨x0, x1, x2, x3, x4⟩ := HX.out.at_
              have hbw := HX.out.lt
              go_wp2_with fail
              refine (show Calls Try.prog 39 #[.agg #[.int .i64 t.kind, .string (bt t.text), .int .i64 t.n, .int .i64 t.line, .int .i64 t.col]] wr _ from wordR_any t wr).mono ?_
              rintro e w3 ⟨rfl, hb3⟩
              have HL3 := Lib.hid (HL1.out.below hb3)
              have HS3 := Lib.hid (HS.out.trans (.of_below _ hb3))
              have HX3 := Lib.hid (HX.out.below hb3)
              have d1 := (hb3.cell (p := ⟨s.g, 1, none⟩) hgl).trans c1
              have dk := (hb3.cell (p := ⟨q, n * 2 + 1, none⟩) hq).trans k1
              have df := (hb3.frozen (p := ⟨s.g, 1, none⟩) hgl).trans f1
              have hg3 : s.g < w3.heap.size := Nat.lt_of_lt_of_le hgl hb3.size
              have hq3 : q < w3.heap.size := Nat.lt_of_lt_of_le hq hb3.size
              clear hb3 c1 k1 f1 x0 x1 x2 x3 x4 hbw
              go_wp2_with fail
              refine (closer_any (wdL t) w3).mono ?_
              rintro e w4 ⟨rfl, rfl⟩
              rw [HGd.out, hclo]
              go_wp2_with fail
              refine (onlyR_any w3 ⟨s.g, _, vr, vo⟩ ab (curR r1) (.blk col) _ s.g n rfl HN'.out HL3.out (by rw [← HN'.out]; omega)).mono ?_
              rintro e w5 ⟨rfl, hb5⟩
              rw [H3.out, hlo]
              have HL5 := Lib.hid (HL3.out.below hb5)
              have HS5 := Lib.hid (HS3.out.trans (.of_below _ hb5))
              have HX5 := Lib.hid (HX3.out.below hb5)
              have c1 := (hb5.cell (p := ⟨s.g, 1, none⟩) hg3).trans d1
              have k1 := (hb5.cell (p := ⟨q, n * 2 + 1, none⟩) hq3).trans dk
              have f1 := (hb5.frozen (p := ⟨s.g, 1, none⟩) hg3).trans df
              have hg5 : s.g < w5.heap.size := Nat.lt_of_lt_of_le hg3 hb5.size
              have hq5 : q < w5.heap.size := Nat.lt_of_lt_of_le hq3 hb5.size
              clear hb5 d1 dk df
              obtain ⟨x0, x1, x2, x3, x4⟩ := HX5.out.at_
              have hbw := HX5.out.lt
              go_wp2_with fail
              obtain ⟨hl6, hs6⟩ := rcut_done (k := n + 1) (rs := .blk col :: curR r1) HL5.out rfl (by rw [HN'.out]; simp; omega) (by rw [HN'.out]; simp)
              have HL6 := Lib.hid hl6
              have HS6 := Lib.hid (HS5.out.trans hs6)
              have HX6 := Lib.hid (HX5.out.step hs6)
              clear hl6 hs6
              refine (layR_g _ ⟨s.g, .slice (some ⟨q, 0, none⟩) (n + 1) cap, vr, vo⟩ (.blk col :: curR r1) (out ++ o1) [59] t s.g rfl HL6.out (by omega)).mono ?_
              rintro e w7 ⟨rfl, s7, _, hl7, hs7⟩
              have HL7 := Lib.hid hl7
              have HS7 := Lib.hid (HS6.out.trans hs7)
              clear hl7 hs7 x0 x1 x2 x3 x4
              go_wp2
              go_ret
              unfold RLine
              rw [HE.out, HN.out]
              exact ⟨rfl, s7, by have := HL7.out; rw [List.append_assoc] at this; exact this, HS7.out⟩
        · have hL : col < c := by omega
          have hne : (col == c) = false := by simp only [beq_eq_false_iff_ne]; omega
          cases hlo : curL r1 with
          | false =>
            have HN := Lib.hid (ln_bad (t := t) (k := k) HC.out hA (fun e => absurd e hEq) hlo)
            go_wp2_with fail
            refine (blockR_g wr ⟨s.g, _, vr, vo⟩ r1 _ s.g rfl HL.out (by have := HR1.out; omega)).mono ?_
            rintro e w2 ⟨rfl, rfl⟩
            rw [H2.out]
            clear hEq
            obtain ⟨w3, rfl⟩ : ∃ w3, w3 = wr := ⟨_, rfl⟩
            have HL3 := HL1
            have HS3 := HS
            have HX3 := HX
            have d1 := c1
            have dk := k1
            have df := f1
            have hg3 := hgl
            have hq3 := hq
            clear c1 k1 f1
            go_wp2_with fail
            refine (onlyR_any w3 ⟨s.g, _, vr, vo⟩ ab (curR r1) (.blk c) _ s.g n rfl HN'.out HL3.out (by rw [← HN'.out]; omega)).mono ?_
            rintro e w5 ⟨rfl, hb5⟩
            rw [H3.out, hlo]
            have HL5 := Lib.hid (HL3.out.below hb5)
            have HS5 := Lib.hid (HS3.out.trans (.of_below _ hb5))
            have HX5 := Lib.hid (HX3.out.below hb5)
            have c1 := (hb5.cell (p := ⟨s.g, 1, none⟩) hg3).trans d1
            have k1 := (hb5.cell (p := ⟨q, n * 2 + 1, none⟩) hq3).trans dk
            have f1 := (hb5.frozen (p := ⟨s.g, 1, none⟩) hg3).trans df
            have hg5 : s.g < w5.heap.size := Nat.lt_of_lt_of_le hg3 hb5.size
            have hq5 : q < w5.heap.size := Nat.lt_of_lt_of_le hq3 hb5.size
            clear hb5 d1 dk df
            obtain ⟨x0, x1, x2, x3, x4⟩ := HX5.out.at_
            have hbw := HX5.out.lt
            have z2 : ∀ i, w5.frozen? ⟨s.g, i, none⟩ = false := fun i => HL5.out.frozen i
            obtain ⟨l0, c0, n0, hblk⟩ := HL5.out.blk
            have y2 : w5.cell? ⟨s.g, 2, none⟩ = some (.string ⟨#[]⟩) := by simp [World.cell?, hblk]
            have y3 : w5.cell? ⟨s.g, 3, none⟩ = some (.int .i64 l0) := by simp [World.cell?, hblk]
            have y4 : w5.cell? ⟨s.g, 4, none⟩ = some (.int .i64 c0) := by simp [World.cell?, hblk]
            have y5 : w5.cell? ⟨s.g, 5, none⟩ = some (.int .i64 n0) := by simp [World.cell?, hblk]
            clear hblk
            go_wp2
            go_ret
            unfold RLine
            rw [HE.out, HN.out]
            exact ⟨rfl, bad_done HL5.out HS5.out⟩
          | true =>
            have HLo := Lib.hid hlo
            clear hEq
            go_wp2_with fail
            refine (blockR_g wr ⟨s.g, _, vr, vo⟩ r1 _ s.g rfl HL.out (by have := HR1.out; omega)).mono ?_
            rintro e w2 ⟨rfl, rfl⟩
            rw [H2.out]
            obtain ⟨w3, rfl⟩ : ∃ w3, w3 = wr := ⟨_, rfl⟩
            have HL3 := HL1
            have HS3 := HS
            have HX3 := HX
            have d1 := c1
            have dk := k1
            have df := f1
            have hg3 := hgl
            have hq3 := hq
            clear c1 k1 f1
            go_wp2_with fail
            refine (onlyR_any w3 ⟨s.g, _, vr, vo⟩ ab (curR r1) (.blk c) _ s.g n rfl HN'.out HL3.out (by rw [← HN'.out]; omega)).mono ?_
            rintro e w5 ⟨rfl, hb5⟩
            rw [H3.out, hlo]
            have HL5 := Lib.hid (HL3.out.below hb5)
            have HS5 := Lib.hid (HS3.out.trans (.of_below _ hb5))
            have HX5 := Lib.hid (HX3.out.below hb5)
            have c1 := (hb5.cell (p := ⟨s.g, 1, none⟩) hg3).trans d1
            have k1 := (hb5.cell (p := ⟨q, n * 2 + 1, none⟩) hq3).trans dk
            have f1 := (hb5.frozen (p := ⟨s.g, 1, none⟩) hg3).trans df
            have hg5 : s.g < w5.heap.size := Nat.lt_of_lt_of_le hg3 hb5.size
            have hq5 : q < w5.heap.size := Nat.lt_of_lt_of_le hq3 hb5.size
            clear hb5 d1 dk df
            obtain ⟨x0, x1, x2, x3, x4⟩ := HX5.out.at_
            have hbw := HX5.out.lt
            go_wp2_with fail
            obtain ⟨hl6, hs6⟩ := rcut_done (ab := ab ++ [.blk c]) (k := n) (rs := curR r1) (by rw [List.append_assoc]; exact HL5.out) rfl (by rw [HN'.out]; simp; omega) HN'.out
            have HL6 := Lib.hid hl6
            have HS6 := Lib.hid (HS5.out.trans hs6)
            have HX6 := Lib.hid (HX5.out.step hs6)
            clear hl6 hs6
            refine (layR_g _ ⟨s.g, .slice (some ⟨q, 0, none⟩) n cap, vr, vo⟩ (curR r1) (out ++ o1) [125] t s.g rfl HL6.out (by omega)).mono ?_
            rintro e w7 ⟨rfl, s7, _, hl7, hs7⟩
            have HL7 := Lib.hid hl7
            have HS7 := Lib.hid (HS6.out.trans hs7)
            have HX7 := Lib.hid (HX6.out.step hs7)
            clear hl7 hs7 x0 x1 x2 x3 x4
            go_wp2
            go_roundg k
            case measure => omega
            case rel => exact ⟨s7, curR r1, o1 ++ [insT [125] t], by have := HL7.out; rw [List.append_assoc] at this; exact this, HS7.out, HX7.out, by rw [← HN'.out]; omega, by have := hobd; simp at this ⊢; rw [← HN'.out]; omega, by rw [HE.out]; exact ln_left HC.out hL HLo.out o1⟩
end

section
open Go.RowKit Lx
attribute [local go_sem] bt_size bt_get bt_list bt_toList bt_drop bt_take
attribute [local go_sem ↓] Go.wp_at_zero Go.wp_at_succ

theorem topE_of (p : En → Bool) : ∀ (ab : List En) (e : En) (r : List En) (k : Nat), (∀ x ∈ ab, p x = true) → p e = false → topE p (ab ++ e :: r) k = some (k + nBlk ab, e, r)
  | [], e, r, k, _, he => by simp [topE, he, nBlk]
  | x :: ab, e, r, k, h, he => by
    rw [List.cons_append, topE, if_pos (h x (by simp)), topE_of p ab e r _ (fun y hy => h y (by simp [hy])) he]
    simp only [nBlk]
    cases hb : x.isBlk <;> simp [hb] <;> omega
theorem topE_all (p : En → Bool) : ∀ (ab : List En) (k : Nat), (∀ x ∈ ab, p x = true) → topE p ab k = none
  | [], _, _ => rfl
  | x :: ab, k, h => by
    rw [topE, if_pos (h x (by simp))]
    exact topE_all p ab _ (fun y hy => h y (by simp [hy]))

/-- The top entry's text is turned. -/
theorem rput_done {w : World} {s : St} {e e' : En} {r : List En} {out : List Rt} {q cap n : Nat} (h : RAt w s (e :: r) out) (hn : n = r.length) (hv : s.ve = .slice (some ⟨q, 0, none⟩) (n + 1) cap) (hc : thC e' = thC e) :
    RAt (w.setCell ⟨q, n * 2, none⟩ (.string (bt (thS e')))) s (e' :: r) out ∧ Step s s w (w.setCell ⟨q, n * 2, none⟩ (.string (bt (thS e')))) := by
  subst hn
  have hE := h.en
  rw [hv] at hE
  have hq := hE.lt q rfl
  have hother : ∀ i, i ≠ q → (w.setCell ⟨q, r.length * 2, none⟩ (.string (bt (thS e')))).heap[i]? = w.heap[i]? := fun i hi => heap_set_other w q _ i _ hi
  obtain ⟨l, c, n, hbk⟩ := h.blk
  refine ⟨⟨⟨l, c, n, (hother _ (by omega)).trans hbk⟩, ?_, h.no, own_same h.ou fun b hb => hother b ?_⟩, ?_⟩
  · rw [hv]
    refine ⟨by rw [ths_len], .inr ?_⟩
    rcases hE.2 with ⟨h0, _⟩ | ⟨g, cap', cur, hv', hb, hg, hn, hm, hs, ht⟩
    · cases h0
    · injection hv' with h1 _ h3
      injection h1 with h1
      injection h1 with h1 _ _
      subst h1 h3
      refine ⟨q, cap, cur.setIfInBounds (r.length * 2) (.string (bt (thS e'))), rfl, hb, by simp [World.setCell, Array.getElem?_modify, hg], hn, hm, by simpa using hs, ?_⟩
      rw [Array.toList_setIfInBounds, List.take_set, show (e' :: r).length = (e :: r).length from rfl, ht, thsCells, thsCells, List.set_append_right _ _ (by rw [ths_len]; exact Nat.le_refl _), ths_len, Nat.sub_self]
      simp [thCells, hc]
  · intro he
    rcases own_ne h.ou h.en (by decide) with hx | hx
    · rw [hx] at hb; cases hb
    · exact hx (by rw [hb, he, hv]; rfl)
  · refine ⟨rfl, rfl, rfl, rfl, by rw [size_set]; exact Nat.le_refl _, fun i _ hi => ⟨hother i (fun e => hi (.inr (.inl (by rw [hv, e]; rfl)))), hi⟩⟩

/-- At the head of each round of the loop that lays. -/
def CRel (s : St) (w : World) (b : Nat) (t : Rt) (ve : Value) (g n : Nat) (ab rs : List En) (out : List Rt) (i : Value) (wr : World) : Prop :=
  ∃ (k : Nat) (s1 : St), k ≤ ab.length ∧ i = .int .i64 ((n : Int) + 1 + k) ∧ s1.ve = ve ∧ s1.g = g ∧ RAt wr s1 rs (out ++ List.replicate (nBlk (ab.reverse.take k)) (insT [125] t)) ∧ Step s s1 w wr ∧ BX s1 wr b t

set_option maxHeartbeats 1000000 in
set_option maxRecDepth 100000 in
theorem closesR_not (w : World) (s : St) (rs : List En) (out : List Rt) (t : Rt) (hgood : GoodT t) (hclo : cloB t = false) (h : RAt w s rs out) :
    Calls Try.prog 67 #[.pointer (some ⟨s.g, 0, none⟩), tokV t] w fun e w' => RPost s w (endL t rs).1 (out ++ (endL t rs).2) (.returned (.tuple #[])) e w' := by
  have HL0 := Lib.hid (h.below (below_alloc w (boxT t)))
  have HS0 := Lib.hid (Step.of_below s (below_alloc w (boxT t)))
  have HGd := Lib.hid (good_clo hgood)
  have HEnd := Lib.hid (show endL t rs = (rs, []) by rw [endL, hclo]; rfl)
  clear h hgood
  unfold tokV
  go_enter Try.func67, Try.ntmps67
  go_wp2_with fail
  refine (show Calls Try.prog 39 #[.agg #[.int .i64 t.kind, .string (bt t.text), .int .i64 t.n, .int .i64 t.line, .int .i64 t.col]] (w.alloc (boxT t)) _ from wordR_any t _).mono ?_
  rintro e w3 ⟨rfl, hb3⟩
  have HL3 := Lib.hid (HL0.out.below hb3)
  have HS3 := Lib.hid (HS0.out.trans (.of_below _ hb3))
  clear hb3
  go_wp2_with fail
  refine (closer_any (wdL t) w3).mono ?_
  rintro e w4 ⟨rfl, rfl⟩
  rw [HGd.out, hclo]
  go_wp2
  go_end0
  exact ⟨rfl, s, by rw [HEnd.out]; simpa using HL3.out, HS3.out⟩

set_option maxHeartbeats 8000000 in
set_option maxRecDepth 100000 in
theorem closesR_in (w : World) (s : St) (rs : List En) (out : List Rt) (t : Rt) (hgood : GoodT t) (hclo : cloB t = true) (hin : (t.text == [105, 110]) = true) (h : RAt w s rs out) (hn : rs.length + out.length ≤ 9000000) :
    Calls Try.prog 67 #[.pointer (some ⟨s.g, 0, none⟩), tokV t] w fun e w' => RPost s w (endL t rs).1 (out ++ (endL t rs).2) (.returned (.tuple #[])) e w' := by
  have hg0 := h.g_lt
  have hne0 : w.heap.size ≠ s.g := by omega
  have hne1 : s.g ≠ w.heap.size := by omega
  have HL0 := Lib.hid (h.below (below_alloc w (boxT t)))
  have HS0 := Lib.hid (Step.of_below s (below_alloc w (boxT t)))
  have HX0 := Lib.hid (BX.newR h t)
  have HGd := Lib.hid (good_clo hgood)
  have HOne := Lib.hid (clo_one hclo)
  have HWd := Lib.hid (wd_of (t := t) (.inl (by rw [good_clo hgood]; exact hclo)))
  have HEnd := Lib.hid (show endL t rs = closeL t rs by rw [endL, hclo]; rfl)
  have HTp := Lib.hid (show ∀ k, topE (if t.text == [105, 110] then En.isBlk else En.loose) rs k = topE En.isBlk rs k by rw [hin]; exact fun _ => rfl)
  clear h hgood
  obtain ⟨x, hx⟩ : ∃ x, x = t.text := ⟨_, rfl⟩
  have hin : (x == [105, 110]) = true := by rw [hx]; exact hin
  have hinn : (x != [105, 110]) = false := by rw [bne, hin]; rfl
  have HXt := Lib.hid hx
  clear hx
  unfold tokV
  go_enter Try.func67, Try.ntmps67
  go_wp2_with fail
  refine (show Calls Try.prog 39 #[.agg #[.int .i64 t.kind, .string (bt t.text), .int .i64 t.n, .int .i64 t.line, .int .i64 t.col]] (w.alloc (boxT t)) _ from wordR_any t _).mono ?_
  rintro e w3 ⟨rfl, hb3⟩
  have HL3 := Lib.hid (HL0.out.below hb3)
  have HS3 := Lib.hid (HS0.out.trans (.of_below _ hb3))
  have HX3 := Lib.hid (HX0.out.below hb3)
  clear hb3 HL0 HS0 HX0
  go_wp2_with fail
  refine (closer_any (wdL t) w3).mono ?_
  rintro e w4 ⟨rfl, rfl⟩
  rw [HGd.out, hclo, HWd.out, ← HXt.out]
  have hgl := HL3.out.g_lt
  have c1 := HL3.out.cells.2
  have f1 := HL3.out.frozen 1
  obtain ⟨ao, cap, hv⟩ := rstk_form HL3.out
  rw [hv] at c1
  have HV := Lib.hid hv
  clear hv
  go_wp2
  go_loopw [5] (fun i wr => ∃ ab r, rs = ab ++ r ∧ i = .int .i64 ((r.length : Int) - 1) ∧ (∀ e ∈ ab, En.isBlk e = true) ∧ w3 = wr) (fun i _ => (intOf i + 1).toNat)
  case atStart => exact ⟨[], rs, rfl, rfl, by simp, rfl⟩
  case round =>
    obtain ⟨ab, r, hsp, rfl, hall, rfl⟩ := hrel
    cases r with
    | nil =>
      have HR := Lib.hid (show closeL t rs = (rs, []) by
        rw [closeL, HTp.out, topE_all _ rs 0 (by rw [hsp, List.append_nil]; exact hall)])
      clear hsp hall
      have hm1 : (([] : List En).length : Int) - 1 = -1 := rfl
      rw [hm1]
      go_wp2
      go_end0
      exact ⟨rfl, s, by rw [HEnd.out, HR.out]; simpa using HL3.out, HS3.out⟩
    | cons e r =>
      have hlen : (((e :: r).length : Nat) : Int) - 1 = (r.length : Int) := by simp
      rw [hlen]
      have HLs := HL3.out
      rw [hsp] at HLs
      obtain ⟨q, cap', hv', hc', hm, hq, k0, k1⟩ := rent_cells HLs
      have hlr : rs.length = ab.length + r.length + 1 := by rw [hsp]; simp; omega
      rw [HV.out] at hv'
      injection hv' with h1 h2 h3
      subst h1 h3
      have hrl : (r.length : Int) < (rs.length : Int) := by omega
      have HSp := Lib.hid hsp
      have HAll := Lib.hid hall
      have HLs := Lib.hid HLs
      clear hall hsp k1 h2
      have he := th_empty e
      have hl := th_let e
      obtain ⟨n, hnr⟩ : ∃ n, n = r.length := ⟨_, rfl⟩
      rw [← hnr] at k0 hrl hc' ⊢
      have HNr := Lib.hid hnr
      have HLr := Lib.hid hlr
      have hrb : n < 9000000 := by omega
      clear hnr hlr hlen
      obtain ⟨y, hy⟩ : ∃ y, y = thS e := ⟨_, rfl⟩
      rw [← hy] at k0 he hl
      have HY := Lib.hid hy
      clear hy
      cases hp : En.isBlk e with
      | true =>
        rw [hp] at he
        have he : (y == []) = true := he
        go_wp2
        go_roundw
        case rel => exact ⟨ab ++ [e], r, by rw [HSp.out]; simp, by rw [← HNr.out], fun z hz => by
          rcases List.mem_append.1 hz with hz | hz
          · exact HAll.out z hz
          · simp at hz; rw [hz]; exact hp, by first | rfl | trivial⟩
        case measure => simp [intOf]
      | false =>
        rw [hp] at he
        have hfx : fitsL y x = (y == [108, 101, 116]) := by rw [eq_of_beq hin]; rfl
        cases hl2 : (y == [108, 101, 116]) with
        | true =>
          have hfit : fitsL y x = true := by rw [hfx, hl2]
          clear hl hfx
          have hl := hl2
          have HFt := Lib.hid (show topE (if t.text == [105, 110] then En.isBlk else En.loose) rs 0 = some (nBlk ab, e, r) by rw [HTp.out, HSp.out, topE_of _ ab e r 0 HAll.out hp, Nat.zero_add])
          have HFb := Lib.hid (show fitB t.text e = true by rw [← fits_eq e t.text HOne.out, ← HXt.out, ← HY.out, hfit])
          go_wp2_with fail
          refine (fits_any y x w3).mono ?_
          rintro e5 w5 ⟨rfl, rfl⟩
          rw [hfit]
          clear k0 c1 f1 hq he hl
          go_wp2
          go_loopw [6] (fun i wr => CRel s w w.heap.size t s.ve s.g n ab rs out i wr) (fun i _ => (((ab.length + n + 1 : Nat) : Int) - intOf i).toNat)
          case atStart => exact ⟨0, s, Nat.zero_le _, by simp, rfl, rfl, by simpa [nBlk] using HL3.out, HS3.out, HX3.out⟩
          case round =>
            obtain ⟨k, ⟨g1, ve, vr, vo⟩, hk, rfl, hve, hg1, hl1, hs1, hx1⟩ := hrel
            obtain rfl : g1 = s.g := hg1
            obtain rfl : ve = s.ve := hve
            have HL1 := Lib.hid hl1
            have HS1 := Lib.hid hs1
            have HX1 := Lib.hid hx1
            have hgr : s.g < wr.heap.size := hl1.g_lt
            have d1 : wr.cell? ⟨s.g, 1, none⟩ = some s.ve := hl1.cells.2
            have df : wr.frozen? ⟨s.g, 1, none⟩ = false := hl1.frozen 1
            rw [HV.out] at d1
            have hl1' := hl1
            rw [HSp.out] at hl1'
            obtain ⟨q', cap', hv', _, _, hq', kk0, kk1⟩ := rent_cells hl1'
            have hqq : q' = q := by
              have := hv'
              simp only [HV.out] at this
              injection this with h1 _ _
              injection h1 with h1
              injection h1 with h1 _ _
              exact h1.symm
            subst hqq
            have HC := Lib.hid (rabove_cells hl1' hv')
            rw [← HNr.out] at kk0 kk1 HC
            obtain ⟨x0, x1, x2, x3, x4⟩ := hx1.at_
            have hbw := hx1.lt
            have HK0 := Lib.hid kk0
            have HFz := Lib.hid (show ∀ j, wr.frozen? ⟨q', j, none⟩ = false from fun j => by have := hl1.en; simp only [HV.out] at this; exact this.frozenAt j)
            have HQg := Lib.hid (show s.g < q' from (by have := hl1.en; simp only [HV.out] at this; exact (this.lt q' rfl).1))
            clear hl1 hs1 hx1 hl1' hv' kk0 kk1
            by_cases hlt : k < ab.length
            · have hkr : k < ab.reverse.length := by simpa using hlt
              have e0 := (HC.out k hkr).1
              have HTk := Lib.hid (nBlk_snoc ab.reverse k hkr)
              have hye := th_empty ab.reverse[k]
              revert e0 HTk hye
              generalize ab.reverse[k] = z
              intro e0 HTk hye
              clear hkr
              obtain ⟨y2, hy2⟩ : ∃ y2, y2 = thS z := ⟨_, rfl⟩
              rw [← hy2] at e0 hye
              clear hy2
              obtain ⟨i, hi⟩ : ∃ i : Nat, i = n + 1 + k := ⟨_, rfl⟩
              have hint : (n : Int) + 1 + k = (i : Int) := by omega
              rw [← hi] at e0
              rw [hint]
              have hil : (i : Int) < (rs.length : Int) := by have := HLr.out; rw [← HNr.out] at this; omega
              have hil2 : i < rs.length := by omega
              have HI := Lib.hid hi
              have hob : (nBlk (ab.reverse.take k)) ≤ 9000000 := by have := nBlk_le (ab.reverse.take k); simp at this; have := HLr.out; omega
              have hob2 : (out ++ List.replicate (nBlk (ab.reverse.take k)) (insT [125] t)).length ≤ 10000000 := by
                have h1 := nBlk_le (ab.reverse.take k)
                have h2 := HLr.out
                simp at h1 ⊢
                omega
              clear hi hint
              cases hzb : z.isBlk with
              | true =>
                rw [hzb] at hye
                go_wp2_with fail
                refine (layR_g wr ⟨s.g, s.ve, vr, vo⟩ rs _ [125] t s.g rfl HL1.out hob2).mono ?_
                rintro e5 w5 ⟨rfl, s5, hv5, hl5, hs5⟩
                have HL5 := Lib.hid hl5
                have HS5 := Lib.hid (HS1.out.trans hs5)
                have HX5 := Lib.hid (HX1.out.step hs5)
                have HV5 := Lib.hid hv5
                have HG5 := Lib.hid hs5.g
                clear hl5 hs5 hv5 x0 x1 x2 x3 x4 d1 df e0
                go_wp2
                go_roundw
                case rel =>
                  refine ⟨k + 1, s5, by omega, by have := HI.out; go_num, HV5.out, HG5.out, ?_, HS5.out, HX5.out⟩
                  rw [HTk.out, hzb]
                  have := HL5.out
                  rw [List.append_assoc] at this
                  simpa [List.replicate_succ'] using this
                case measure => have := HI.out; simp [intOf]; omega
              | false =>
                rw [hzb] at hye
                go_wp2
                go_roundw
                case rel =>
                  refine ⟨k + 1, ⟨s.g, s.ve, vr, vo⟩, by omega, by have := HI.out; go_num, rfl, rfl, ?_, HS1.out, HX1.out⟩
                  rw [HTk.out, hzb]
                  simpa using HL1.out
                case measure => have := HI.out; simp [intOf]; omega
            · obtain rfl : k = ab.length := by omega
              rw [List.take_of_length_le (by simp), nBlk_rev] at HL1
              have hge : ¬ (n : Int) + 1 + ab.length < (rs.length : Int) := by have := HLr.out; rw [← HNr.out] at this; omega
              have HL1 := Lib.hid (show RAt wr ⟨s.g, s.ve, vr, vo⟩ (ab ++ e :: r) (out ++ List.replicate (nBlk ab) (insT [125] t)) by rw [← HSp.out]; exact HL1.out)
              have hrsl : rs.length = ab.length + n + 1 := by have := HLr.out; rw [← HNr.out] at this; exact this
              have hn1 : (n : Int) + 1 ≤ (rs.length : Int) := by omega
              have hcapl : n + 1 ≤ rs.length := by omega
              have HRl := Lib.hid hrsl
              clear hrsl
              obtain ⟨hl6, hs6⟩ := rcut_done (k := n + 1) (rs := e :: r) (cap := cap) (n := rs.length) (q := q') HL1.out HV.out (by rw [HSp.out]) (by rw [HNr.out]; simp)
              have HL6 := Lib.hid hl6
              have HS6 := Lib.hid (HS1.out.trans hs6)
              clear hl6 hs6
              clear x0 x1 x2 x3 x4
              have t1 : (x == [116, 104, 101, 110]) = false := by rw [eq_of_beq hin]; rfl
              have t2 : (x == [44]) = false := by rw [eq_of_beq hin]; rfl
              obtain ⟨hl7, hs7⟩ := rcut_done (ab := [e]) (k := n) (rs := r) (cap := cap) (n := n + 1) (q := q') HL6.out rfl (by rw [HNr.out]; simp) HNr.out
              have HL7 := Lib.hid hl7
              have HS7 := Lib.hid (HS6.out.trans hs7)
              clear hl7 hs7
              have HR := Lib.hid (show closeL t rs = (r, List.replicate (nBlk ab) (insT [125] t)) by
                rw [closeL, HFt.out]; simp only; rw [if_pos HFb.out, ← HXt.out, t2, t1]; rfl)
              go_wp2
              go_end0
              exact ⟨rfl, _, by rw [HEnd.out, HR.out]; exact HL7.out, HS7.out⟩
        | false =>
          have hfit : fitsL y x = false := by rw [hfx, hl2]
          clear hl hfx
          have hl := hl2
          have HR := Lib.hid (show closeL t rs = (rs, []) by
            rw [closeL, HTp.out, HSp.out, topE_of _ ab e r 0 HAll.out hp]
            simp only
            rw [if_neg (by rw [← fits_eq e t.text HOne.out, ← HXt.out, ← HY.out, hfit]; exact Bool.false_ne_true)])
          go_wp2_with fail
          refine (fits_any y x w3).mono ?_
          rintro e5 w5 ⟨rfl, rfl⟩
          rw [hfit]
          go_wp2
          go_end0
          exact ⟨rfl, s, by rw [HEnd.out, HR.out]; simpa using HL3.out, HS3.out⟩

set_option maxHeartbeats 8000000 in
set_option maxRecDepth 100000 in
theorem closesR_no (w : World) (s : St) (rs : List En) (out : List Rt) (t : Rt) (hgood : GoodT t) (hclo : cloB t = true) (hin : (t.text == [105, 110]) = false) (h : RAt w s rs out) (hn : rs.length + out.length ≤ 9000000) :
    Calls Try.prog 67 #[.pointer (some ⟨s.g, 0, none⟩), tokV t] w fun e w' => RPost s w (endL t rs).1 (out ++ (endL t rs).2) (.returned (.tuple #[])) e w' := by
  have hg0 := h.g_lt
  have hne0 : w.heap.size ≠ s.g := by omega
  have hne1 : s.g ≠ w.heap.size := by omega
  have HL0 := Lib.hid (h.below (below_alloc w (boxT t)))
  have HS0 := Lib.hid (Step.of_below s (below_alloc w (boxT t)))
  have HX0 := Lib.hid (BX.newR h t)
  have HGd := Lib.hid (good_clo hgood)
  have HOne := Lib.hid (clo_one hclo)
  have HWd := Lib.hid (wd_of (t := t) (.inl (by rw [good_clo hgood]; exact hclo)))
  have HEnd := Lib.hid (show endL t rs = closeL t rs by rw [endL, hclo]; rfl)
  have HTp := Lib.hid (show ∀ k, topE (if t.text == [105, 110] then En.isBlk else En.loose) rs k = topE En.loose rs k by rw [hin]; exact fun _ => rfl)
  clear h hgood
  obtain ⟨x, hx⟩ : ∃ x, x = t.text := ⟨_, rfl⟩
  have hin : (x == [105, 110]) = false := by rw [hx]; exact hin
  have hinn : (x != [105, 110]) = true := by rw [bne, hin]; rfl
  have HXt := Lib.hid hx
  clear hx
  unfold tokV
  go_enter Try.func67, Try.ntmps67
  go_wp2_with fail
  refine (show Calls Try.prog 39 #[.agg #[.int .i64 t.kind, .string (bt t.text), .int .i64 t.n, .int .i64 t.line, .int .i64 t.col]] (w.alloc (boxT t)) _ from wordR_any t _).mono ?_
  rintro e w3 ⟨rfl, hb3⟩
  have HL3 := Lib.hid (HL0.out.below hb3)
  have HS3 := Lib.hid (HS0.out.trans (.of_below _ hb3))
  have HX3 := Lib.hid (HX0.out.below hb3)
  clear hb3 HL0 HS0 HX0
  go_wp2_with fail
  refine (closer_any (wdL t) w3).mono ?_
  rintro e w4 ⟨rfl, rfl⟩
  rw [HGd.out, hclo, HWd.out, ← HXt.out]
  have hgl := HL3.out.g_lt
  have c1 := HL3.out.cells.2
  have f1 := HL3.out.frozen 1
  obtain ⟨ao, cap, hv⟩ := rstk_form HL3.out
  rw [hv] at c1
  have HV := Lib.hid hv
  clear hv
  go_wp2
  go_loopw [5] (fun i wr => ∃ ab r, rs = ab ++ r ∧ i = .int .i64 ((r.length : Int) - 1) ∧ (∀ e ∈ ab, En.loose e = true) ∧ w3 = wr) (fun i _ => (intOf i + 1).toNat)
  case atStart => exact ⟨[], rs, rfl, rfl, by simp, rfl⟩
  case round =>
    obtain ⟨ab, r, hsp, rfl, hall, rfl⟩ := hrel
    cases r with
    | nil =>
      have HR := Lib.hid (show closeL t rs = (rs, []) by
        rw [closeL, HTp.out, topE_all _ rs 0 (by rw [hsp, List.append_nil]; exact hall)])
      clear hsp hall
      have hm1 : (([] : List En).length : Int) - 1 = -1 := rfl
      rw [hm1]
      go_wp2
      go_end0
      exact ⟨rfl, s, by rw [HEnd.out, HR.out]; simpa using HL3.out, HS3.out⟩
    | cons e r =>
      have hlen : (((e :: r).length : Nat) : Int) - 1 = (r.length : Int) := by simp
      rw [hlen]
      have HLs := HL3.out
      rw [hsp] at HLs
      obtain ⟨q, cap', hv', hc', hm, hq, k0, k1⟩ := rent_cells HLs
      have hlr : rs.length = ab.length + r.length + 1 := by rw [hsp]; simp; omega
      rw [HV.out] at hv'
      injection hv' with h1 h2 h3
      subst h1 h3
      have hrl : (r.length : Int) < (rs.length : Int) := by omega
      have HSp := Lib.hid hsp
      have HAll := Lib.hid hall
      have HLs := Lib.hid HLs
      clear hall hsp k1 h2
      have he := th_empty e
      have hl := th_let e
      obtain ⟨n, hnr⟩ : ∃ n, n = r.length := ⟨_, rfl⟩
      rw [← hnr] at k0 hrl hc' ⊢
      have HNr := Lib.hid hnr
      have HLr := Lib.hid hlr
      have hrb : n < 9000000 := by omega
      clear hnr hlr hlen
      obtain ⟨y, hy⟩ : ∃ y, y = thS e := ⟨_, rfl⟩
      rw [← hy] at k0 he hl
      have HY := Lib.hid hy
      clear hy
      cases hp : En.loose e with
      | true =>
        rw [hp] at hl
        cases hb : e.isBlk with
        | true =>
          rw [hb] at he hl
          have he : (y == []) = true := he
          go_wp2
          go_roundw
          case rel => exact ⟨ab ++ [e], r, by rw [HSp.out]; simp, by rw [← HNr.out], fun z hz => by
            rcases List.mem_append.1 hz with hz | hz
            · exact HAll.out z hz
            · simp at hz; rw [hz]; exact hp, by first | rfl | trivial⟩
          case measure => simp [intOf]
        | false =>
          rw [hb] at he hl
          have he : (y == []) = false := he
          have hl : (y == [108, 101, 116]) = true := hl
          go_wp2
          go_roundw
          case rel => exact ⟨ab ++ [e], r, by rw [HSp.out]; simp, by rw [← HNr.out], fun z hz => by
            rcases List.mem_append.1 hz with hz | hz
            · exact HAll.out z hz
            · simp at hz; rw [hz]; exact hp, by first | rfl | trivial⟩
          case measure => simp [intOf]
      | false =>
        have hb : e.isBlk = false := by
          cases e with
          | blk c => cases hp
          | brc => rfl
          | mk m => rfl
        rw [hb] at he
        rw [hp] at hl
        have hl : (y == [108, 101, 116]) = false := hl
        cases hfit : fitsL y x with
        | false =>
          have HR := Lib.hid (show closeL t rs = (rs, []) by
            rw [closeL, HTp.out, HSp.out, topE_of _ ab e r 0 HAll.out hp]
            simp only
            rw [if_neg (by rw [← fits_eq e t.text HOne.out, ← HXt.out, ← HY.out, hfit]; exact Bool.false_ne_true)])
          go_wp2_with fail
          refine (fits_any y x w3).mono ?_
          rintro e5 w5 ⟨rfl, rfl⟩
          rw [hfit]
          go_wp2
          go_end0
          exact ⟨rfl, s, by rw [HEnd.out, HR.out]; simpa using HL3.out, HS3.out⟩
        | true =>
          have HFt := Lib.hid (show topE (if t.text == [105, 110] then En.isBlk else En.loose) rs 0 = some (nBlk ab, e, r) by rw [HTp.out, HSp.out, topE_of _ ab e r 0 HAll.out hp, Nat.zero_add])
          have HFb := Lib.hid (show fitB t.text e = true by rw [← fits_eq e t.text HOne.out, ← HXt.out, ← HY.out, hfit])
          go_wp2_with fail
          refine (fits_any y x w3).mono ?_
          rintro e5 w5 ⟨rfl, rfl⟩
          rw [hfit]
          clear k0 c1 f1 hq he hl
          go_wp2
          go_loopw [6] (fun i wr => CRel s w w.heap.size t s.ve s.g n ab rs out i wr) (fun i _ => (((ab.length + n + 1 : Nat) : Int) - intOf i).toNat)
          case atStart => exact ⟨0, s, Nat.zero_le _, by simp, rfl, rfl, by simpa [nBlk] using HL3.out, HS3.out, HX3.out⟩
          case round =>
            obtain ⟨k, ⟨g1, ve, vr, vo⟩, hk, rfl, hve, hg1, hl1, hs1, hx1⟩ := hrel
            obtain rfl : g1 = s.g := hg1
            obtain rfl : ve = s.ve := hve
            have HL1 := Lib.hid hl1
            have HS1 := Lib.hid hs1
            have HX1 := Lib.hid hx1
            have hgr : s.g < wr.heap.size := hl1.g_lt
            have d1 : wr.cell? ⟨s.g, 1, none⟩ = some s.ve := hl1.cells.2
            have df : wr.frozen? ⟨s.g, 1, none⟩ = false := hl1.frozen 1
            rw [HV.out] at d1
            have hl1' := hl1
            rw [HSp.out] at hl1'
            obtain ⟨q', cap', hv', _, _, hq', kk0, kk1⟩ := rent_cells hl1'
            have hqq : q' = q := by
              have := hv'
              simp only [HV.out] at this
              injection this with h1 _ _
              injection h1 with h1
              injection h1 with h1 _ _
              exact h1.symm
            subst hqq
            have HC := Lib.hid (rabove_cells hl1' hv')
            rw [← HNr.out] at kk0 kk1 HC
            obtain ⟨x0, x1, x2, x3, x4⟩ := hx1.at_
            have hbw := hx1.lt
            have HK0 := Lib.hid kk0
            have HFz := Lib.hid (show ∀ j, wr.frozen? ⟨q', j, none⟩ = false from fun j => by have := hl1.en; simp only [HV.out] at this; exact this.frozenAt j)
            have HQg := Lib.hid (show s.g < q' from (by have := hl1.en; simp only [HV.out] at this; exact (this.lt q' rfl).1))
            clear hl1 hs1 hx1 hl1' hv' kk0 kk1
            by_cases hlt : k < ab.length
            · have hkr : k < ab.reverse.length := by simpa using hlt
              have e0 := (HC.out k hkr).1
              have HTk := Lib.hid (nBlk_snoc ab.reverse k hkr)
              have hye := th_empty ab.reverse[k]
              revert e0 HTk hye
              generalize ab.reverse[k] = z
              intro e0 HTk hye
              clear hkr
              obtain ⟨y2, hy2⟩ : ∃ y2, y2 = thS z := ⟨_, rfl⟩
              rw [← hy2] at e0 hye
              clear hy2
              obtain ⟨i, hi⟩ : ∃ i : Nat, i = n + 1 + k := ⟨_, rfl⟩
              have hint : (n : Int) + 1 + k = (i : Int) := by omega
              rw [← hi] at e0
              rw [hint]
              have hil : (i : Int) < (rs.length : Int) := by have := HLr.out; rw [← HNr.out] at this; omega
              have hil2 : i < rs.length := by omega
              have HI := Lib.hid hi
              have hob : (nBlk (ab.reverse.take k)) ≤ 9000000 := by have := nBlk_le (ab.reverse.take k); simp at this; have := HLr.out; omega
              have hob2 : (out ++ List.replicate (nBlk (ab.reverse.take k)) (insT [125] t)).length ≤ 10000000 := by
                have h1 := nBlk_le (ab.reverse.take k)
                have h2 := HLr.out
                simp at h1 ⊢
                omega
              clear hi hint
              cases hzb : z.isBlk with
              | true =>
                rw [hzb] at hye
                go_wp2_with fail
                refine (layR_g wr ⟨s.g, s.ve, vr, vo⟩ rs _ [125] t s.g rfl HL1.out hob2).mono ?_
                rintro e5 w5 ⟨rfl, s5, hv5, hl5, hs5⟩
                have HL5 := Lib.hid hl5
                have HS5 := Lib.hid (HS1.out.trans hs5)
                have HX5 := Lib.hid (HX1.out.step hs5)
                have HV5 := Lib.hid hv5
                have HG5 := Lib.hid hs5.g
                clear hl5 hs5 hv5 x0 x1 x2 x3 x4 d1 df e0
                go_wp2
                go_roundw
                case rel =>
                  refine ⟨k + 1, s5, by omega, by have := HI.out; go_num, HV5.out, HG5.out, ?_, HS5.out, HX5.out⟩
                  rw [HTk.out, hzb]
                  have := HL5.out
                  rw [List.append_assoc] at this
                  simpa [List.replicate_succ'] using this
                case measure => have := HI.out; simp [intOf]; omega
              | false =>
                rw [hzb] at hye
                go_wp2
                go_roundw
                case rel =>
                  refine ⟨k + 1, ⟨s.g, s.ve, vr, vo⟩, by omega, by have := HI.out; go_num, rfl, rfl, ?_, HS1.out, HX1.out⟩
                  rw [HTk.out, hzb]
                  simpa using HL1.out
                case measure => have := HI.out; simp [intOf]; omega
            · obtain rfl : k = ab.length := by omega
              rw [List.take_of_length_le (by simp), nBlk_rev] at HL1
              have hge : ¬ (n : Int) + 1 + ab.length < (rs.length : Int) := by have := HLr.out; rw [← HNr.out] at this; omega
              have HL1 := Lib.hid (show RAt wr ⟨s.g, s.ve, vr, vo⟩ (ab ++ e :: r) (out ++ List.replicate (nBlk ab) (insT [125] t)) by rw [← HSp.out]; exact HL1.out)
              have hrsl : rs.length = ab.length + n + 1 := by have := HLr.out; rw [← HNr.out] at this; exact this
              have hn1 : (n : Int) + 1 ≤ (rs.length : Int) := by omega
              have hcapl : n + 1 ≤ rs.length := by omega
              have HRl := Lib.hid hrsl
              clear hrsl
              obtain ⟨hl6, hs6⟩ := rcut_done (k := n + 1) (rs := e :: r) (cap := cap) (n := rs.length) (q := q') HL1.out HV.out (by rw [HSp.out]) (by rw [HNr.out]; simp)
              have HL6 := Lib.hid hl6
              have HS6 := Lib.hid (HS1.out.trans hs6)
              clear hl6 hs6
              clear x0 x1 x2 x3 x4
              cases t2 : (x == [44]) with
              | true =>
                have t1 : (x == [116, 104, 101, 110]) = false := by rw [eq_of_beq t2]; rfl
                have HR := Lib.hid (show closeL t rs = (e :: r, List.replicate (nBlk ab) (insT [125] t)) by
                  rw [closeL, HFt.out]; simp only; rw [if_pos HFb.out, ← HXt.out, t2]; rfl)
                go_wp2
                go_end0
                exact ⟨rfl, _, by rw [HEnd.out, HR.out]; exact HL6.out, HS6.out⟩
              | false =>
                cases t1 : (x == [116, 104, 101, 110]) with
                | true =>
                  obtain ⟨m, rfl⟩ : ∃ m, e = .mk m := by
                    have hb := HFb.out
                    rw [← HXt.out, eq_of_beq t1] at hb
                    cases e with
                    | blk c => cases hb
                    | brc => cases hb
                    | mk m => exact ⟨m, rfl⟩
                  obtain ⟨hl7, hs7⟩ := rput_done (e' := .mk .thn) HL6.out HNr.out rfl rfl
                  have HL7 := Lib.hid hl7
                  have HS7 := Lib.hid (HS6.out.trans hs7)
                  clear hl7 hs7
                  have kk0 := HK0.out
                  have kf0 := HFz.out (n * 2)
                  have hqg := HQg.out
                  have hqg1 : q' ≠ s.g := by omega
                  have hqg2 : s.g ≠ q' := by omega
                  have HR := Lib.hid (show closeL t rs = (.mk .thn :: r, List.replicate (nBlk ab) (insT [125] t)) by
                    rw [closeL, HFt.out]; simp only; rw [if_pos HFb.out, ← HXt.out, t2, t1]; rfl)
                  go_wp2
                  go_end0
                  exact ⟨rfl, _, by rw [HEnd.out, HR.out]; exact HL7.out, HS7.out⟩
                | false =>
                  obtain ⟨hl7, hs7⟩ := rcut_done (ab := [e]) (k := n) (rs := r) (cap := cap) (n := n + 1) (q := q') HL6.out rfl (by rw [HNr.out]; simp) HNr.out
                  have HL7 := Lib.hid hl7
                  have HS7 := Lib.hid (HS6.out.trans hs7)
                  clear hl7 hs7
                  have HR := Lib.hid (show closeL t rs = (r, List.replicate (nBlk ab) (insT [125] t)) by
                    rw [closeL, HFt.out]; simp only; rw [if_pos HFb.out, ← HXt.out, t2, t1]; rfl)
                  go_wp2
                  go_end0
                  exact ⟨rfl, _, by rw [HEnd.out, HR.out]; exact HL7.out, HS7.out⟩

theorem closesR_any (w : World) (s : St) (rs : List En) (out : List Rt) (t : Rt) (g : Nat) (hg : s.g = g) (hgood : GoodT t) (h : RAt w s rs out) (hn : rs.length + out.length ≤ 9000000) :
    Calls Try.prog 67 #[.pointer (some ⟨g, 0, none⟩), tokV t] w fun e w' => RPost s w (endL t rs).1 (out ++ (endL t rs).2) (.returned (.tuple #[])) e w' := by
  subst hg
  cases hclo : cloB t with
  | false => exact closesR_not w s rs out t hgood hclo h
  | true =>
    cases hin : (t.text == [105, 110]) with
    | true => exact closesR_in w s rs out t hgood hclo hin h hn
    | false => exact closesR_no w s rs out t hgood hclo hin h hn
end
end Go.Proofs.Ytbjbmehkcfpahaa
