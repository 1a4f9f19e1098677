/- The contract of Read: for every text it answers what the plain lexer says, in memory of its own, and what was there before stays. No condition but the length that every string keeps. -/
import Derived.Test.YtbjbmehkcfpahaaSkip
namespace Go.Proofs.Ytbjbmehkcfpahaa
open Go.RowKit Lx
attribute [local go_sem] bt_size bt_get bt_list bt_toList bt_drop bt_take

/-- A token's cells. -/
def tokCells (t : Tk) : List Value := [.int .i64 t.kind, .string (bt t.text), .int .i64 t.n, .int .i64 (t.line : Int), .int .i64 (t.col : Int)]
def toksCells (ts : List Tk) : List Value := ts.flatMap tokCells

theorem toksCells_len (ts : List Tk) : (toksCells ts).length = ts.length * 5 := by
  induction ts with
  | nil => rfl
  | cons t ts ih => simp only [toksCells, List.flatMap_cons, List.length_append, List.length_cons] at ih ⊢; rw [ih]; simp [tokCells]; omega

theorem toksCells_snoc (ts : List Tk) (t : Tk) : toksCells (ts ++ [t]) = toksCells ts ++ tokCells t := by simp [toksCells]

def ReadPost (w : World) (l : List UInt8) (e : Ending) (w' : World) : Prop :=
  match readL l with
  | .error d => e = .returned (.tuple #[.slice none 0 0, diagV d.line d.col d.num]) ∧ Below w.heap.size w w'
  | .ok ts => ∃ v, e = .returned (.tuple #[v, diagV 0 0 0]) ∧ w'.ownsRow w.heap.size 33 5 v ts.length (toksCells ts) ∧ Below w.heap.size w w'

def zeroDiag : Obj := .cells #[.string ⟨#[]⟩, .int .i64 0, .int .i64 0, .int .i64 0] 25

set_option maxHeartbeats 400000 in
set_option maxRecDepth 100000 in
theorem read_long (l : List UInt8) (w : World) (h : 16384 < l.length) (_hs : l.length ≤ maxLen) :
    Calls Try.prog 8 #[.string (bt l)] w fun e w' => ReadPost w l e w' := by
  have hr := Lib.hid (show readL l = .error ⟨1, 1, 10⟩ by rw [readL, if_pos h])
  go_enter Try.func8, Try.ntmps8
  go_wp2
  refine bodyPost_ret (v := .tuple #[.slice none 0 0, diagV 1 1 10]) (by simp [results, go_sem, diagV]) rfl ?_
  unfold ReadPost
  rw [hr.out]
  exact ⟨rfl, below_alloc _ _⟩

/-- At the head of each round of Read's loop. -/
def ReadRel (w : World) (l : List UInt8) (m : Nat) (v : Value) (wr : World) : Prop :=
  ∃ (r : List UInt8) (p : Nat × Nat) (k : Nat) (ts : List Tk), SrcAt wr (w.heap.size + 1) r p ∧ Bd r p ∧ 1 ≤ p.2 ∧ r.length < k ∧ wr.ownsRow (w.heap.size + 2) 33 5 v ts.length (toksCells ts) ∧
    Below (w.heap.size + 1) (w.alloc zeroDiag) wr ∧ ts.length + r.length ≤ 16384 ∧ readL l = (lexL k r p).map (ts ++ ·) ∧ r.length < m

theorem Try.infoTok : (Try.prog.info? 33).map (fun i => (i.zero, i.size, i.bytes)) = some (some (.agg #[.int .i64 0, .string ⟨#[]⟩, .int .i64 0, .int .i64 0, .int .i64 0]), 5, 48) := by kernel_rfl
theorem Try.underToks : Try.prog.underlying 22 = some (.slice 33) := by kernel_rfl

theorem read_start (w : World) (l : List UInt8) (h : l.length ≤ 16384) :
    ReadRel w l (l.length + 1) (.slice none 0 0) ((w.alloc zeroDiag).alloc (.cells #[.string (bt l), .int .i64 1, .int .i64 1] 37)) := by
  refine ⟨l, (1, 1), l.length + 1, [], ?_, ⟨by simp; omega, by simp; omega, h⟩, Nat.le_refl _, by omega, World.ownsRow_nil _ _ _ _, ?_, by simpa using h, ?_, by omega⟩
  · have := heap_alloc_new (w.alloc zeroDiag) (.cells #[.string (bt l), .int .i64 1, .int .i64 1] 37)
    simpa [SrcAt] using this
  · exact (Below.refl _ _).alloc (by simp) _
  · rw [readL, if_neg (by omega)]
    cases lexL (l.length + 1) l (1, 1) <;> simp [Except.map]

/-- What a step that writes the source alone leaves. -/
theorem read_keep {w wr w1 : World} {v : Value} {ts : List Tk} (ho : wr.ownsRow (w.heap.size + 2) 33 5 v ts.length (toksCells ts)) (hb : Below (w.heap.size + 1) (w.alloc zeroDiag) wr) (hg : wr.grownBy w1 (some (w.heap.size + 1))) :
    w1.ownsRow (w.heap.size + 2) 33 5 v ts.length (toksCells ts) ∧ Below (w.heap.size + 1) (w.alloc zeroDiag) w1 := by
  refine ⟨ho.kept hg (.inr fun e => by have := (ho.lt _ e).1; omega), ?_⟩
  have hz := hb.size
  simp at hz
  exact ⟨hg.os.trans hb.os, hg.tape.trans hb.tape, hg.output.trans hb.output, Nat.le_trans hb.size hg.size, fun i hi => by
    rw [hg.block i (by omega) (fun e => by injection e; omega)]
    exact hb.block i hi⟩

theorem src_alloc {w : World} {g : Nat} {r : List UInt8} {p : Nat × Nat} (h : SrcAt w g r p) (o : Obj) : SrcAt (w.alloc o) g r p := (Below.heap_alloc w o g (src_lt h)).trans h

/-- What a step that makes memory leaves. -/
theorem read_below {w wr w1 : World} {v : Value} {ts : List Tk} {r : List UInt8} {p : Nat × Nat} (hs : SrcAt wr (w.heap.size + 1) r p) (ho : wr.ownsRow (w.heap.size + 2) 33 5 v ts.length (toksCells ts)) (hb : Below (w.heap.size + 1) (w.alloc zeroDiag) wr) (hg : Below wr.heap.size wr w1) :
    SrcAt w1 (w.heap.size + 1) r p ∧ w1.ownsRow (w.heap.size + 2) 33 5 v ts.length (toksCells ts) ∧ Below (w.heap.size + 1) (w.alloc zeroDiag) w1 := by
  have hlt := src_lt hs
  refine ⟨(hg.block _ hlt).trans hs, ?_, hb.trans (hg.mono (by omega))⟩
  exact ho.kept (row := none) ⟨hg.os, hg.tape, hg.output, hg.size, fun k hk _ => hg.block k hk⟩ (by
    cases h : v.ownBlock with
    | none => exact .inl rfl
    | some b => exact .inr (by simp))

theorem diag_cells {w w1 : World} (hb : Below (w.heap.size + 1) (w.alloc zeroDiag) w1) : w.heap.size < w1.heap.size ∧ w1.cell? ⟨w.heap.size, 0, none⟩ = some (.string ⟨#[]⟩) ∧ w1.cell? ⟨w.heap.size, 1, none⟩ = some (.int .i64 0) ∧ w1.cell? ⟨w.heap.size, 2, none⟩ = some (.int .i64 0) ∧ w1.cell? ⟨w.heap.size, 3, none⟩ = some (.int .i64 0) ∧
    w1.frozen? ⟨w.heap.size, 0, none⟩ = false ∧ w1.frozen? ⟨w.heap.size, 1, none⟩ = false ∧ w1.frozen? ⟨w.heap.size, 2, none⟩ = false ∧ w1.frozen? ⟨w.heap.size, 3, none⟩ = false := by
  have hz := hb.size
  simp at hz
  have hc : ∀ i, w1.cell? ⟨w.heap.size, i, none⟩ = (w.alloc zeroDiag).cell? ⟨w.heap.size, i, none⟩ := fun i => hb.cell (p := ⟨w.heap.size, i, none⟩) (by simp)
  have hf : ∀ i, w1.frozen? ⟨w.heap.size, i, none⟩ = (w.alloc zeroDiag).frozen? ⟨w.heap.size, i, none⟩ := fun i => hb.frozen (p := ⟨w.heap.size, i, none⟩) (by simp)
  refine ⟨by omega, ?_, ?_, ?_, ?_, ?_, ?_, ?_, ?_⟩ <;> simp [hc, hf, zeroDiag]

def set4 (w : World) (b : Nat) (f l c n : Value) : World :=
  (((w.setCell ⟨b, 0, none⟩ f).setCell ⟨b, 1, none⟩ l).setCell ⟨b, 2, none⟩ c).setCell ⟨b, 3, none⟩ n
theorem below_set4 {B b : Nat} {w w1 : World} (h : Below B w w1) (hB : B ≤ b) (f l c n : Value) : Below B w (set4 w1 b f l c n) :=
  (((h.setCell (p := ⟨b, 0, none⟩) hB f).setCell (p := ⟨b, 1, none⟩) hB l).setCell (p := ⟨b, 2, none⟩) hB c).setCell (p := ⟨b, 3, none⟩) hB n

theorem below_diag {w wr : World} (h : Below (w.heap.size + 1) (w.alloc zeroDiag) wr) : Below w.heap.size w wr := (below_alloc w zeroDiag).trans (h.mono (by omega))

theorem lexL_none {k : Nat} {l : List UInt8} {p : Nat × Nat} (hk : 0 < k) (h : gapL l = none) : lexL k l p = .error ⟨p.1, p.2, 14⟩ := by
  obtain ⟨k, rfl⟩ : ∃ j, k = j + 1 := ⟨k - 1, by omega⟩
  rw [lexL, h]
theorem lexL_end {k : Nat} {p : Nat × Nat} (hk : 0 < k) : lexL k [] p = .ok [⟨9, [], 0, p.1, p.2⟩] := by
  obtain ⟨k, rfl⟩ : ∃ j, k = j + 1 := ⟨k - 1, by omega⟩
  rfl
theorem lexL_bad {k : Nat} {c : UInt8} {r : List UInt8} {p : Nat × Nat} (hk : 0 < k) (h : gapL (c :: r) = some 0) (he : (tokG (c :: r)).err ≠ 0) : lexL k (c :: r) p = .error ⟨p.1, p.2, (tokG (c :: r)).err⟩ := by
  obtain ⟨k, rfl⟩ : ∃ j, k = j + 1 := ⟨k - 1, by omega⟩
  rw [lexL, h]
  simp [he]
theorem lexL_tok {k : Nat} {c : UInt8} {r : List UInt8} {p : Nat × Nat} (h : gapL (c :: r) = some 0) (he : (tokG (c :: r)).err = 0) :
    lexL (k + 1) (c :: r) p = (lexL k ((c :: r).drop (tokG (c :: r)).len) (advL p ((c :: r).take (tokG (c :: r)).len))).map (fun ts => ⟨(tokG (c :: r)).kind, (tokG (c :: r)).text, (tokG (c :: r)).n, p.1, p.2⟩ :: ts) := by
  rw [lexL, h]
  simp [he]

theorem tok_at (w : World) (t : Tk) (o : Array Value) (T : TypeId) (ho : o.toList = tokCells t) : ∀ j u, (tokCells t)[j]? = some u → (w.alloc (.cells o T)).cell? ((⟨w.heap.size, 0, none⟩ : Addr).add j) = some u := by
  intro j u hu
  have ha : ((⟨w.heap.size, 0, none⟩ : Addr).add j) = ⟨w.heap.size, j, none⟩ := by
    unfold Addr.add
    split
    · rename_i h; subst h; rfl
    · simp
  rw [ha, World.cell?_alloc_at _ _ _ _ rfl]
  rw [← ho] at hu
  simpa using hu

theorem tok_at' (w : World) (t : Tk) (o : Array Value) (T : TypeId) (ho : o.toList = tokCells t) (b : Nat) (hb : b = w.heap.size) : ∀ j u, (tokCells t)[j]? = some u → (w.alloc (.cells o T)).cell? ((⟨b, 0, none⟩ : Addr).add j) = some u := by
  subst hb
  exact tok_at w t o T ho

theorem lit_le : ∀ (f : Nat) (l : List UInt8) (r : List UInt8 × Nat), litL f l = some r → 1 ≤ r.2 ∧ r.2 ≤ l.length
  | 0, _, _, h => by cases h
  | _ + 1, [], _, h => by cases h
  | f + 1, c :: l, r, h => by
    have hc := charL_le c l
    rw [litL] at h
    split at h
    · simp at h; subst h; simp
    · split at h
      · cases h
      · cases hb : litL f ((c :: l).drop (charL (c :: l)).2) with
        | none => rw [hb] at h; cases h
        | some m =>
          rw [hb] at h
          have := lit_le f _ _ hb
          simp at h this
          subst h
          simp
          omega

theorem tokG_len (c : UInt8) (r : List UInt8) (he : (tokG (c :: r)).err = 0) : 1 ≤ (tokG (c :: r)).len ∧ (tokG (c :: r)).len ≤ r.length + 1 := by
  rw [tokG_cons] at he ⊢
  have tw : ∀ p : UInt8 → Bool, p c = true → 1 ≤ ((c :: r).takeWhile p).length ∧ ((c :: r).takeWhile p).length ≤ r.length + 1 := fun p hp => by
    have := takeWhile_len p r
    rw [tw_cons hp]
    simp
    omega
  split at he
  · rename_i h
    rw [if_pos h]
    have hw : wordB c = true := by
      simp only [Bool.or_eq_true] at h
      rcases h with h | h <;> simp [wordB, h]
    exact tw wordB hw
  · rename_i h
    rw [if_neg h]
    split at he
    · rename_i h
      rw [if_pos h]
      have := tw digB h
      unfold intG at he ⊢
      split at he
      · simp [badG] at he
      · rename_i n hv
        simp only []
        exact this
    · rename_i h
      rw [if_neg h]
      split at he
      · rename_i h
        rw [if_pos h]
        exact tw symB h
      · rename_i h
        rw [if_neg h]
        split at he
        · rename_i h
          rw [if_pos h]
          simp [speltG]
        · rename_i h
          rw [if_neg h]
          split at he
          · rename_i h
            rw [if_pos h]
            unfold litG at he ⊢
            split at he
            · simp [badG] at he
            · rename_i m hv
              simp only []
              have := lit_le _ _ _ hv
              simp at this ⊢
              omega
          · simp [badG] at he

theorem tok_one (t : Tk) : ∀ u ∈ tokCells t, u.oneCell' = true := by
  intro u hu
  simp [tokCells] at hu
  rcases hu with rfl | rfl | rfl | rfl | rfl <;> rfl

/-- What an append to the tokens leaves. -/
theorem read_append {w wr w1 : World} {v v' : Value} {o : Obj} {ts : List Tk} {t : Tk} {r : List UInt8} {p : Nat × Nat} (hs : SrcAt wr (w.heap.size + 1) r p) (ho : wr.ownsRow (w.heap.size + 2) 33 5 v ts.length (toksCells ts))
    (hb : Below (w.heap.size + 1) (w.alloc zeroDiag) wr) (hg : (wr.alloc o).grownBy w1 v.ownBlock) (hown' : w1.ownsRow (w.heap.size + 2) 33 5 v' (ts.length + 1) (toksCells ts ++ tokCells t)) :
    SrcAt w1 (w.heap.size + 1) r p ∧ w1.ownsRow (w.heap.size + 2) 33 5 v' (ts ++ [t]).length (toksCells (ts ++ [t])) ∧ Below (w.heap.size + 1) (w.alloc zeroDiag) w1 := by
  have hlt := src_lt hs
  have hne : ∀ i, i < w.heap.size + 2 → some i ≠ v.ownBlock := fun i hi e => by have := (ho.lt i e.symm).1; omega
  have hbl : ∀ i, i < w.heap.size + 2 → w1.heap[i]? = wr.heap[i]? := fun i hi => by
    rw [hg.block i (by simp; omega) (hne i hi)]
    exact Below.heap_alloc wr o i (by omega)
  refine ⟨(hbl _ (by omega)).trans hs, by rw [toksCells_snoc, List.length_append]; exact hown', ?_⟩
  have h1 := hb.alloc (by omega) o
  exact ⟨hg.os.trans h1.os, hg.tape.trans h1.tape, hg.output.trans h1.output, Nat.le_trans h1.size hg.size, fun i hi => (hbl i (by omega)).trans (hb.block i hi)⟩

theorem own_base {w : World} {a b : Nat} {e : TypeId} {s : Nat} {v : Value} {n : Nat} {xs : List Value} (h : w.ownsRow a e s v n xs) (hab : b ≤ a) : w.ownsRow b e s v n xs := by
  refine ⟨h.1, ?_⟩
  rcases h.2 with hn | ⟨g, cap, cur, h1, h2, h3⟩
  · exact .inl hn
  · exact .inr ⟨g, cap, cur, h1, by omega, h3⟩

theorem own_set4 {w : World} {a b : Nat} {e : TypeId} {s : Nat} {v : Value} {n : Nat} {xs : List Value} (h : w.ownsRow a e s v n xs) (hb : b < a) (f l c m : Value) : (set4 w b f l c m).ownsRow a e s v n xs := by
  refine h.kept (row := some b) ?_ (.inr fun e => by have := (h.lt _ e).1; omega)
  exact only_set (only_set (only_set (only_set ⟨rfl, rfl, rfl, Nat.le_refl _, fun _ _ _ => rfl⟩ _ _) _ _) _ _) _ _

set_option maxHeartbeats 1000000 in
set_option maxRecDepth 100000 in
theorem read_short (l : List UInt8) (w : World) (h : l.length ≤ 16384) :
    Calls Try.prog 8 #[.string (bt l)] w fun e w' => ReadPost w l e w' := by
  obtain ⟨i0, hi, hz0, hz1, hz2⟩ := info_parts Try.infoTok
  go_enter Try.func8, Try.ntmps8
  go_wp2
  go_loopg [5] (l.length + 1) (fun m v wr => ReadRel w l m v wr)
  case atStart => exact read_start w l h
  case round =>
    obtain ⟨r, p, k, ts, hs, hb, hp1, hk, hown, hbe, hcnt, hall, hm⟩ := hrel
    have H := Lib.hid hall
    have HS := Lib.hid hs
    have HB := Lib.hid hb
    have HO := Lib.hid hown
    have HE := Lib.hid hbe
    clear hall hs hb hown hbe
    go_wp2_with fail
    refine (skip_any _ _ r p k HS.out HB.out hp1 hk).mono ?_
    rintro e w1 ⟨b, r1, p1, k1, rfl, hs1, hg1, hb1, hp11, hle1, hk1, hlex1, hgap⟩
    obtain ⟨ho1, be1⟩ := read_keep HO.out HE.out hg1
    have HO1 := Lib.hid ho1
    have HE1 := Lib.hid be1
    have HS1 := Lib.hid hs1
    have HB1 := Lib.hid hb1
    have hb3 := hb1.2.2
    have hz1s := src_lt hs1
    rw [hlex1] at H
    clear hlex1 ho1 be1 hs1 hg1 hb1 HO HE HS HB hk
    cases b with
    | false =>
      have HG := Lib.hid (show gapL r1 = none from hgap)
      clear hgap
      go_wp2_with fail
      refine (wrong_any _ _ r1 p1 14 HS1.out).mono ?_
      rintro e w2 ⟨rfl, hb2⟩
      obtain ⟨hs2, ho2, be2⟩ := read_below HS1.out HO1.out HE1.out hb2
      obtain ⟨dz, d0, d1, d2, d3, e0, e1, e2, e3⟩ := diag_cells be2
      have HE2 := Lib.hid be2
      clear hs2 ho2 be2 hb2
      unfold diagV
      go_wp2
      refine bodyPost_ret (v := .tuple #[.slice none 0 0, diagV p1.1 p1.2 14]) (by simp [results, go_sem, diagV, d0, d1, d2, d3]) rfl ?_
      unfold ReadPost
      rw [H.out, lexL_none (by omega) HG.out]
      exact ⟨rfl, below_set4 (below_diag HE2.out) (Nat.le_refl _) _ _ _ _⟩
    | true =>
      have HG := Lib.hid (show gapL r1 = some 0 from hgap)
      clear hgap
      obtain ⟨q0, q1, q2⟩ := src_cells HS1.out
      cases r1 with
      | nil =>
        obtain ⟨dz, d0, d1, d2, d3, e0, e1, e2, e3⟩ := diag_cells HE1.out
        go_wp2_with (at_builtin; refine wpList_append_own _ rfl _ _ 22 rfl (w.heap.size + 2) 33 i0 _ 5 48 Try.underToks hi hz0 hz1 hz2 rfl (by decide) _ _ _ rfl (HO1.out.alloc _) ⟨w1.heap.size, 0, none⟩ 1 1 (tokCells ⟨9, [], 0, p1.1, p1.2⟩) rfl rfl ?c1 ?c2 ?c3 ?c4 ?c5 ?_)
        case c1 => exact tok_at w1 ⟨9, [], 0, p1.1, p1.2⟩ _ _ rfl
        case c2 => exact tok_one _
        case c3 => simp [maxLen]; omega
        case c4 => omega
        case c5 => simp; omega
        intro v' w2 hown' hgrow _
        obtain ⟨hs2, ho2, be2⟩ := read_append HS1.out HO1.out HE1.out hgrow hown'
        obtain ⟨dz, d0, d1, d2, d3, e0, e1, e2, e3⟩ := diag_cells be2
        have HE2 := Lib.hid be2
        have HO2 := Lib.hid ho2
        clear hs2 ho2 be2 hown' hgrow q0 q1 q2
        go_wp2
        refine bodyPost_ret (v := .tuple #[v', diagV 0 0 0]) (by simp [results, go_sem, diagV, d0, d1, d2, d3]) rfl ?_
        unfold ReadPost
        rw [H.out, lexL_end (by omega)]
        exact ⟨v', rfl, own_base (own_set4 HO2.out (by omega) _ _ _ _) (by omega), below_set4 (below_diag HE2.out) (Nat.le_refl _) _ _ _ _⟩
      | cons c rr =>
        have hcon := fun W : World => token_any c rr W (by simpa using hb3)
        obtain ⟨G, hG⟩ : ∃ G : Got, tokG (c :: rr) = G := ⟨_, rfl⟩
        simp only [hG] at hcon
        have HC := Lib.hid hcon
        have HGG := Lib.hid hG
        clear hcon hG
        go_wp2_with fail
        refine (HC.out _).mono ?_
        rintro e w2 ⟨rfl, hb2⟩
        obtain ⟨hs2, ho2, be2⟩ := read_below HS1.out HO1.out HE1.out hb2
        have HE2 := Lib.hid be2
        have HO2 := Lib.hid ho2
        have HS2 := Lib.hid hs2
        have hsl2 := src_lt hs2
        obtain ⟨g0, g1, g2⟩ := src_cells hs2
        clear hs2 ho2 be2 hb2 q0 q1 q2
        unfold gotR
        by_cases he : G.err = 0
        · have ge : (G.err != 0) = false := by simp [he]
          have HER := Lib.hid he
          clear he
          go_wp2
          go_region
          go_wp2_with (at_builtin; refine wpList_append_own _ rfl _ _ 22 rfl (w.heap.size + 2) 33 i0 _ 5 48 Try.underToks hi hz0 hz1 hz2 rfl (by decide) _ ts.length (toksCells ts) rfl ?k0 ⟨w2.heap.size + 1, 0, none⟩ 1 1 (tokCells ⟨G.kind, G.text, G.n, p1.1, p1.2⟩) rfl rfl ?k1 ?k2 ?k3 ?k4 ?k5 ?_)
          case k0 => exact (HO2.out.alloc _).alloc _
          case k1 => exact tok_at' _ _ _ _ rfl _ (by simp)
          case k2 => exact tok_one _
          case k3 => simp [maxLen]; simp at hle1; omega
          case k4 => simp at hle1; omega
          case k5 => simp; omega
          intro v' w3 hown' hgrow _
          obtain ⟨hs3, ho3, be3⟩ := read_append (src_alloc HS2.out _) (HO2.out.alloc _) (HE2.out.alloc (by omega) _) ⟨hgrow.os, hgrow.tape, hgrow.output, hgrow.size, hgrow.block⟩ hown'
          have HE3 := Lib.hid be3
          have HO3 := Lib.hid ho3
          have HS3 := Lib.hid hs3
          clear hs3 ho3 be3 hown' hgrow
          have hlen := tokG_len c rr (by rw [HGG.out]; exact HER.out)
          rw [HGG.out] at hlen
          obtain ⟨hl1, hl2⟩ := hlen
          go_wp2_with fail
          refine (advance_any _ _ (c :: rr) p1 G.len HS3.out (by simpa using hl2) HB1.out).mono ?_
          rintro e w4 ⟨rfl, hpost⟩
          have HP := Lib.hid hpost
          clear hpost
          go_wp2
          go_roundg (r.length)
          case measure => exact hm
          case rel =>
            obtain ⟨a1, a2⟩ := HP.out
            obtain ⟨b1, b2⟩ := bd_adv HB1.out hp11 (n := G.len) (by simpa using hl2)
            obtain ⟨o4, e4⟩ := read_keep HO3.out HE3.out a2
            obtain ⟨k2, rfl⟩ : ∃ k2, k1 = k2 + 1 := ⟨k1 - 1, by omega⟩
            have hx := lexL_tok (k := k2) (p := p1) HG.out (by rw [HGG.out]; exact HER.out)
            rw [HGG.out] at hx
            simp only [List.length_cons] at hk1 hle1
            refine ⟨_, _, k2, _, a1, b1, b2, by simp; omega, o4, e4, by simp; omega, ?_, by simp; omega⟩
            rw [H.out, hx]
            cases lexL k2 (List.drop G.len (c :: rr)) (advL p1 (List.take G.len (c :: rr))) <;> simp [Except.map]
        · have ge : (G.err != 0) = true := by simp [he]
          have HER := Lib.hid he
          clear he
          go_wp2_with fail
          refine (wrong_any _ _ (c :: rr) p1 _ (src_alloc HS2.out _)).mono ?_
          rintro e w3 ⟨rfl, hb3'⟩
          obtain ⟨hs3, ho3, be3⟩ := read_below (src_alloc HS2.out _) (HO2.out.alloc _) (HE2.out.alloc (by omega) _) hb3'
          obtain ⟨dz, d0, d1, d2, d3, e0, e1, e2, e3⟩ := diag_cells be3
          have HE3 := Lib.hid be3
          clear hs3 ho3 be3 hb3'
          unfold diagV
          go_wp2
          refine bodyPost_ret (v := .tuple #[.slice none 0 0, diagV p1.1 p1.2 G.err]) (by simp [results, go_sem, diagV, d0, d1, d2, d3]) rfl ?_
          unfold ReadPost
          rw [H.out, lexL_bad (by omega) HG.out (by rw [HGG.out]; exact HER.out), HGG.out]
          exact ⟨rfl, below_set4 (below_diag HE3.out) (Nat.le_refl _) _ _ _ _⟩
end Go.Proofs.Ytbjbmehkcfpahaa
