/- What holds at the head of each round of the reference's loop, and what carries it on. No condition. -/
import Derived.Test.YtbjbmehkcfpahaaRef3
import Derived.Test.YtbjbmehkcfpahaaJoin
import Derived.Deep.RegionHeld3
import Derived.Deep.AppendLies
namespace Go.Proofs.Ytbjbmehkcfpahaa
open Go.RowKit Lx
attribute [local go_sem] bt_size bt_get bt_list bt_toList bt_drop bt_take

/-- At the head of each round of the reference's loop. -/
def RefAt (w : World) (l : List UInt8) (m : Nat) (v : Value) (wr : World) (o : Nat) (p : Nat × Nat) (ts : List Tk) : Prop :=
  RdAt wr (w.heap.size + 1) l o p ∧ p = advL (1, 1) (l.take o) ∧ o ≤ l.length ∧ wr.ownsRow (w.heap.size + 2) 33 5 v ts.length (toksCells ts) ∧
    Below (w.heap.size + 1) (w.alloc zeroDiag) wr ∧ ts.length ≤ o ∧ readL l = (lx (l.drop o) p).map (ts ++ ·) ∧ l.length - o < m

def RefRel (w : World) (l : List UInt8) (m : Nat) (v : Value) (wr : World) : Prop := ∃ (o : Nat) (p : Nat × Nat) (ts : List Tk), RefAt w l m v wr o p ts

theorem ref_start (w : World) (l : List UInt8) (h : l.length ≤ 16384) :
    RefRel w l (l.length + 1) (.slice none 0 0) ((w.alloc zeroDiag).alloc (.cells #[.string (bt l), .int .i64 0, .int .i64 1, .int .i64 1] 44)) := by
  refine ⟨0, (1, 1), [], ?_, rfl, Nat.zero_le _, World.ownsRow_nil _ _ _ _, ?_, Nat.le_refl _, ?_, by omega⟩
  · have := heap_alloc_new (w.alloc zeroDiag) (.cells #[.string (bt l), .int .i64 0, .int .i64 1, .int .i64 1] 44)
    simpa [RdAt] using this
  · exact (Below.refl _ _).alloc (by simp) _
  · rw [readL_lx h]
    cases hx : lx (l.drop 0) (1, 1) <;> simp at hx <;> simp [hx, Except.map]

theorem _root_.Go.World.ownsRow.drew' {w : World} {base : Nat} {e : TypeId} {size : Nat} {v : Value} {n : Nat} {xs : List Value} (h : w.ownsRow base e size v n xs) : w.drew.ownsRow base e size v n xs := h

theorem end_blocks {w wr w1 : World} {v : Value} {ts : List Tk} {o : Obj} (hgz : w.heap.size + 1 < wr.heap.size) (ho : wr.ownsRow (w.heap.size + 2) 33 5 v ts.length (toksCells ts)) (hg : ((wr.alloc o).drew).grownBy w1 v.ownBlock) :
    ∀ i, i < w.heap.size + 2 → w1.heap[i]? = wr.heap[i]? := fun i hi => by
  rw [hg.block i (by show i < (wr.alloc o).heap.size; simp; omega) (fun e => by have := (ho.lt i e.symm).1; omega)]
  exact Below.heap_alloc wr o i (by omega)

theorem end_below {w wr w1 : World} {v : Value} {o : Obj} (hb : Below (w.heap.size + 1) (w.alloc zeroDiag) wr) (hbl : ∀ i, i < w.heap.size + 2 → w1.heap[i]? = wr.heap[i]?) (hg : ((wr.alloc o).drew).grownBy w1 v.ownBlock) :
    Below (w.heap.size + 1) (w.alloc zeroDiag) w1 := by
  have hz := hb.size
  have b3 := (hb.alloc (by simpa using hz) o).drew
  exact ⟨hg.os.trans b3.os, hg.tape.trans b3.tape, hg.output.trans b3.output, Nat.le_trans b3.size hg.size, fun i hi => (hbl i (by omega)).trans (hb.block i hi)⟩

theorem ne_blk {a b : Nat} (h : b < a) : some a ≠ some b := fun e => by injection e with e; omega
theorem blw_alloc {a w : World} (h : Below a.heap.size a w) (o : Obj) : Below a.heap.size a (w.alloc o) := h.alloc h.size o
theorem blw_set {a w : World} (h : Below a.heap.size a w) (i : Nat) (u : Value) : Below a.heap.size a (w.setCell ⟨a.heap.size, i, none⟩ u) := h.setCell (p := ⟨a.heap.size, i, none⟩) (Nat.le_refl _) u
theorem blw_trans {a w w' : World} (h : Below a.heap.size a w) (h' : Below w.heap.size w w') : Below a.heap.size a w' := h.trans (h'.mono h.size)

/-- What holds of the reader, of the tokens and of the answer's cell behind steps that make memory. -/
theorem ref_below {w wr w1 : World} {v : Value} {ts : List Tk} {l : List UInt8} {o : Nat} {p : Nat × Nat} (hs : RdAt wr (w.heap.size + 1) l o p) (ho : wr.ownsRow (w.heap.size + 2) 33 5 v ts.length (toksCells ts)) (hb : Below (w.heap.size + 1) (w.alloc zeroDiag) wr) (hg : Below wr.heap.size wr w1) :
    RdAt w1 (w.heap.size + 1) l o p ∧ w1.ownsRow (w.heap.size + 2) 33 5 v ts.length (toksCells ts) ∧ Below (w.heap.size + 1) (w.alloc zeroDiag) w1 := by
  have hlt := rd_lt hs
  refine ⟨(hg.block _ hlt).trans hs, ?_, hb.trans (hg.mono (by omega))⟩
  exact ho.kept (row := none) ⟨hg.os, hg.tape, hg.output, hg.size, fun k hk _ => hg.block k hk⟩ (by
    cases h : v.ownBlock with
    | none => exact .inl rfl
    | some b => exact .inr (by simp))

theorem ref_gap {w wr W w2 : World} {v : Value} {l : List UInt8} {o n : Nat} {p : Nat × Nat} {ts : List Tk} (hs : RdAt wr (w.heap.size + 1) l o p) (hp : p = advL (1, 1) (l.take o)) (ho : wr.ownsRow (w.heap.size + 2) 33 5 v ts.length (toksCells ts)) (hb : Below (w.heap.size + 1) (w.alloc zeroDiag) wr)
    (hW : Below wr.heap.size wr W) (h2 : RdAt w2 (w.heap.size + 1) l (o + n) (advL p ((l.drop o).take n))) (hg : W.grownBy w2 (some (w.heap.size + 1))) (hn : 1 ≤ n) (hon : o + n ≤ l.length) (hc : ts.length ≤ o)
    (hr : readL l = (lx (l.drop o) p).map (ts ++ ·)) (hx : lx (l.drop o) p = lx ((l.drop o).drop n) (advL p ((l.drop o).take n))) : RefRel w l (l.length - o) v w2 := by
  obtain ⟨_, o1, b1⟩ := ref_below hs ho hb hW
  obtain ⟨o2, b2⟩ := read_keep o1 b1 hg
  refine ⟨o + n, _, ts, h2, ?_, hon, o2, b2, by omega, ?_, by omega⟩
  · rw [hp, ← advL_append, List.take_add]
  · rw [hr, hx, List.drop_drop]

theorem ref_tok {w wr W w2 w3 : World} {v v' : Value} {l : List UInt8} {o n : Nat} {p : Nat × Nat} {ts : List Tk} {t : Tk} {ob : Obj} (hs : RdAt wr (w.heap.size + 1) l o p) (hp : p = advL (1, 1) (l.take o)) (ho : wr.ownsRow (w.heap.size + 2) 33 5 v ts.length (toksCells ts)) (hb : Below (w.heap.size + 1) (w.alloc zeroDiag) wr)
    (hW : Below wr.heap.size wr W) (h2 : RdAt w2 (w.heap.size + 1) l (o + n) (advL p ((l.drop o).take n))) (hg : W.grownBy w2 (some (w.heap.size + 1))) (hn : 1 ≤ n) (hon : o + n ≤ l.length) (hc : ts.length ≤ o)
    (hr : readL l = (lx (l.drop o) p).map (ts ++ ·)) (hx : lx (l.drop o) p = (lx ((l.drop o).drop n) (advL p ((l.drop o).take n))).map (t :: ·))
    (hgr : (w2.alloc ob).grownBy w3 v.ownBlock) (hown' : w3.ownsRow (w.heap.size + 2) 33 5 v' (ts.length + 1) (toksCells ts ++ tokCells t)) : RefRel w l (l.length - o) v' w3 := by
  obtain ⟨_, o1, b1⟩ := ref_below hs ho hb hW
  obtain ⟨o2, b2⟩ := read_keep o1 b1 hg
  have hlt := rd_lt h2
  have hne : ∀ i, i < w.heap.size + 2 → some i ≠ v.ownBlock := fun i hi e => by have := (o2.lt i e.symm).1; omega
  have hbl : ∀ i, i < w.heap.size + 2 → w3.heap[i]? = w2.heap[i]? := fun i hi => by
    rw [hgr.block i (by simp; omega) (hne i hi)]
    exact Below.heap_alloc w2 ob i (by omega)
  have b3 := b2.alloc (by omega) ob
  refine ⟨o + n, _, ts ++ [t], (hbl _ (by omega)).trans h2, ?_, hon, by rw [toksCells_snoc, List.length_append]; exact hown', ⟨hgr.os.trans b3.os, hgr.tape.trans b3.tape, hgr.output.trans b3.output, Nat.le_trans b3.size hgr.size, fun i hi => (hbl i (by omega)).trans (b2.block i hi)⟩, by simp; omega, ?_, by omega⟩
  · rw [hp, ← advL_append, List.take_add]
  · rw [hr, hx, List.drop_drop]
    cases lx (l.drop (o + n)) (advL p ((l.drop o).take n)) <;> simp [Except.map]

theorem blk_pos : ∀ (k : Nat) (d : Int) (l : List UInt8) (n : Nat), blkL k d l = some n → 1 ≤ n
  | 0, _, _, _, h => by cases h
  | _ + 1, _, [], _, h => by cases h
  | k + 1, d, a :: l, n, h => by
    rw [blkL] at h
    split at h
    · split at h
      · simp at h; omega
      · cases hb : blkL k (d + 1) (l.drop 1) <;> rw [hb] at h <;> simp at h; omega
    · split at h
      · split at h
        · simp at h; omega
        · cases hb : blkL k (d - 1) (l.drop 1) <;> rw [hb] at h <;> simp at h; omega
      · split at h
        · simp at h; omega
        · cases hb : blkL k d l <;> rw [hb] at h <;> simp at h; omega

theorem gap_open {l : List UInt8} (h : openB l = true) : gapL l = blkL l.length 0 l := by
  cases l with
  | nil => simp [openB, List.isPrefixOf] at h
  | cons c r =>
    have hc : c = 123 := by
      simp [openB, List.isPrefixOf] at h
      exact h.1.symm
    subst hc
    unfold gapL
    rw [if_pos (by rfl), if_pos h]

theorem word_sym {c : UInt8} (h : wordB c = true) : symB c = false := by
  cases hs : symB c with
  | false => rfl
  | true =>
    simp only [symB, symL, List.contains_cons, List.contains_nil, Bool.or_false, Bool.or_eq_true, beq_iff_eq] at hs
    rcases hs with rfl | rfl | rfl | rfl | rfl | rfl | rfl | rfl | rfl | rfl | rfl | rfl | rfl | rfl | rfl | rfl | rfl | rfl | rfl <;> exact absurd h (by decide)

theorem tw_take2 (p : UInt8 → Bool) : ∀ l : List UInt8, l.takeWhile p = l.take (l.takeWhile p).length
  | [] => rfl
  | c :: l => by
    simp only [List.takeWhile_cons]
    split
    · simp only [List.length_cons, List.take_succ_cons]
      rw [← tw_take2 p l]
    · rfl

/-- A token's block. -/
def T5 (w : World) (g : Nat) (k : Int) (txt : List UInt8) (n : Int) (p : Nat × Nat) : Prop :=
  w.cell? ⟨g, 0, none⟩ = some (.int .i64 k) ∧ w.cell? ⟨g, 1, none⟩ = some (.string (bt txt)) ∧ w.cell? ⟨g, 2, none⟩ = some (.int .i64 n) ∧ w.cell? ⟨g, 3, none⟩ = some (.int .i64 (p.1 : Int)) ∧ w.cell? ⟨g, 4, none⟩ = some (.int .i64 (p.2 : Int)) ∧ (∀ i, w.frozen? ⟨g, i, none⟩ = false) ∧ g < w.heap.size

/-- At the head of each round of the reference's loop over digits. -/
def DigRel (wr : World) (txt : List UInt8) (p : Nat × Nat) (i : Value) (wq : World) : Prop :=
  ∃ (k : Nat) (n : Int), k ≤ txt.length ∧ i = .int .i64 k ∧ 0 ≤ n ∧ n ≤ 9223372036854775807 ∧ valL 9223372036854775807 0 txt = valL 9223372036854775807 n (txt.drop k) ∧ T5 wq wr.heap.size 5 txt n p ∧ Below wr.heap.size wr wq

theorem t5_set {w : World} {g : Nat} {k : Int} {txt : List UInt8} {n : Int} {p : Nat × Nat} (h : T5 w g k txt n p) (m : Int) : T5 (w.setCell ⟨g, 2, none⟩ (.int .i64 m)) g k txt m p := by
  obtain ⟨a, b, c, d, e, f, z⟩ := h
  refine ⟨?_, ?_, ?_, ?_, ?_, ?_, ?_⟩
  · rw [World.cell?_setCell_other _ _ _ _ (by simp)]; exact a
  · rw [World.cell?_setCell_other _ _ _ _ (by simp)]; exact b
  · simp [go_sem, c]
  · rw [World.cell?_setCell_other _ _ _ _ (by simp)]; exact d
  · rw [World.cell?_setCell_other _ _ _ _ (by simp)]; exact e
  · intro i; simp [go_sem, f]
  · simpa using z

theorem sym_dig {c : UInt8} (h : digB c = true) : symB c = false := word_sym (by simp [wordB, h])

theorem sym_nl {c : UInt8} (h : symB c = true) : nlB c = true := by
  unfold nlB
  by_cases hc : c = 10
  · subst hc; exact absurd h (by decide)
  · simp [hc]

theorem gap_none {c : UInt8} {r : List UInt8} (h1 : spaceB c = false) (h2 : openB (c :: r) = false) (h3 : lineL (c :: r) = 0) : gapL (c :: r) = some 0 := by
  unfold gapL
  rw [if_pos (by simp [h1]), if_neg (by rw [h2]; exact Bool.false_ne_true), h3]

theorem line_zero {c : UInt8} {r : List UInt8} (h : symB c = false) : lineL (c :: r) = 0 := by
  unfold lineL
  simp [h]

/-- The first loop in a code. -/
def firstLoop : Code → Option Code
  | .loop c => some c
  | .seq a b => match firstLoop a with
    | some c => some c
    | none => firstLoop b
  | .block _ c => firstLoop c
  | .scope c => firstLoop c
  | .cond _ a b => match firstLoop a with
    | some c => some c
    | none => firstLoop b
  | _ => none
/-- The body of the loop of the reference's Read. -/
noncomputable def refBody : Code := ((Try.f9.body.bind firstLoop).getD .skip)

set_option maxRecDepth 1000000 in
/-- The frame at the head of each round. -/
def RI (w : World) (l : List UInt8) (c1 c14 c15 c16 c17 c18 c19 c20 c263 c264 c265 c266 c267 c268 c269 c270 c271 c272 c273 c274 c275 : Value) (k : Nat) (a : Act) (wr : World) : Prop :=
  ∃ u2 u5 u6 u7 u8 u9 u10 u11 u12 u13 u21 u22 u23 u24 u25 u26 u27 u28 u29 u30 u31 u32 u33 u34 u35 u36 u37 u38 u39 u40 u41 u42 u43 u44 u45 u46 u47 u48 u49 u50 u51 u52 u53 u54 u55 u56 u57 u58 u59 u60 u61 u62 u63 u64 u65 u66 u67 u68 u69 u70 u71 u72 u73 u74 u75 u76 u77 u78 u79 u80 u81 u82 u83 u84 u85 u86 u87 u88 u89 u90 u91 u92 u93 u94 u95 u96 u97 u98 u99 u100 u101 u102 u103 u104 u105 u106 u107 u108 u109 u110 u111 u112 u113 u114 u115 u116 u117 u118 u119 u120 u121 u122 u123 u124 u125 u126 u127 u128 u129 u130 u131 u132 u133 u134 u135 u136 u137 u138 u139 u140 u141 u142 u143 u144 u145 u146 u147 u148 u149 u150 u151 u152 u153 u154 u155 u156 u157 u158 u159 u160 u161 u162 u163 u164 u165 u166 u167 u168 u169 u170 u171 u172 u173 u174 u175 u176 u177 u178 u179 u180 u181 u182 u183 u184 u185 u186 u187 u188 u189 u190 u191 u192 u193 u194 u195 u196 u197 u198 u199 u200 u201 u202 u203 u204 u205 u206 u207 u208 u209 u210 u211 u212 u213 u214 u215 u216 u217 u218 u219 u220 u221 u222 u223 u224 u225 u226 u227 u228 u229 u230 u231 u232 u233 u234 u235 u236 u237 u238 u239 u240 u241 u242 u243 u244 u245 u246 u247 u248 u249 u250 u251 u252 u253 u254 u255 u256 u257 u258 u259 u260 u261 u262 : Value, RefRel w l k u5 wr ∧ a = ⟨#[.string (bt l), c1, u2, .pointer (some ⟨w.heap.size, 0, none⟩), .pointer (some ⟨w.heap.size + 1, 0, none⟩), u5, u6, u7, u8, u9, u10, u11, u12, u13, c14, c15, c16, c17, c18, c19, c20, u21, u22, u23, u24, u25, u26, u27, u28, u29, u30, u31, u32, u33, u34, u35, u36, u37, u38, u39, u40, u41, u42, u43, u44, u45, u46, u47, u48, u49, u50, u51, u52, u53, u54, u55, u56, u57, u58, u59, u60, u61, u62, u63, u64, u65, u66, u67, u68, u69, u70, u71, u72, u73, u74, u75, u76, u77, u78, u79, u80, u81, u82, u83, u84, u85, u86, u87, u88, u89, u90, u91, u92, u93, u94, u95, u96, u97, u98, u99, u100, u101, u102, u103, u104, u105, u106, u107, u108, u109, u110, u111, u112, u113, u114, u115, u116, u117, u118, u119, u120, u121, u122, u123, u124, u125, u126, u127, u128, u129, u130, u131, u132, u133, u134, u135, u136, u137, u138, u139, u140, u141, u142, u143, u144, u145, u146, u147, u148, u149, u150, u151, u152, u153, u154, u155, u156, u157, u158, u159, u160, u161, u162, u163, u164, u165, u166, u167, u168, u169, u170, u171, u172, u173, u174, u175, u176, u177, u178, u179, u180, u181, u182, u183, u184, u185, u186, u187, u188, u189, u190, u191, u192, u193, u194, u195, u196, u197, u198, u199, u200, u201, u202, u203, u204, u205, u206, u207, u208, u209, u210, u211, u212, u213, u214, u215, u216, u217, u218, u219, u220, u221, u222, u223, u224, u225, u226, u227, u228, u229, u230, u231, u232, u233, u234, u235, u236, u237, u238, u239, u240, u241, u242, u243, u244, u245, u246, u247, u248, u249, u250, u251, u252, u253, u254, u255, u256, u257, u258, u259, u260, u261, u262, c263, c264, c265, c266, c267, c268, c269, c270, c271, c272, c273, c274, c275], []⟩
end Go.Proofs.Ytbjbmehkcfpahaa
