/- The contract of token: it answers what the plain lexer says of the bytes that it is handed (not empty, at most 16384), and what was there before stays. -/
import Derived.Test.YtbjbmehkcfpahaaToks
namespace Go.Proofs.Ytbjbmehkcfpahaa
open Go.RowKit Lx
attribute [local go_sem] bt_size bt_get bt_list bt_toList bt_drop bt_take

theorem tokG_cons (c : UInt8) (r : List UInt8) : tokG (c :: r) =
    if letB c || c == 95 then speltG (wordKindL ((c :: r).takeWhile wordB)) ((c :: r).takeWhile wordB)
    else if digB c then intG (c :: r)
    else if symB c then speltG (operKindL ((c :: r).takeWhile symB)) ((c :: r).takeWhile symB)
    else if brkB c then speltG 8 [c]
    else if c == 34 then litG (c :: r)
    else badG 11 := rfl

set_option maxHeartbeats 800000 in
set_option maxRecDepth 100000 in
theorem token_letter (c : UInt8) (r : List UInt8) (w : World) (hs : r.length + 1 ≤ 16384) (h1 : letB c = true) :
    Calls Try.prog 17 #[.string (bt (c :: r))] w fun e w' => e = gotR (speltG (wordKindL ((c :: r).takeWhile wordB)) ((c :: r).takeWhile wordB)) ∧ Below w.heap.size w w' := by
  have hw : wordB c = true := by simp [wordB, h1]
  have hcon := fun W : World => word_any c r W (by omega) hw
  obtain ⟨G, hG⟩ : ∃ G : Got, speltG (wordKindL ((c :: r).takeWhile wordB)) ((c :: r).takeWhile wordB) = G := ⟨_, rfl⟩
  simp only [hG] at hcon ⊢
  have HC := Lib.hid hcon
  clear hcon hG
  go_enter Try.func17, Try.ntmps17
  go_wp2_with fail
  refine (isLetter_any _ _).mono ?_
  rintro e w' ⟨rfl, rfl⟩
  rw [h1]
  go_wp2_with fail
  refine (HC.out _).mono ?_
  rintro e w1 ⟨rfl, hb1⟩
  obtain ⟨hc, hf⟩ := bcell hb1
  have hz : w.heap.size < w1.heap.size := by have := hb1.size; simp at this; omega
  unfold gotR
  go_wp2
  refine bodyPost_ret (v := .tuple #[.agg #[.int .i64 G.kind, .string (bt G.text), .int .i64 G.n, .int .i64 0, .int .i64 0], .int .i64 (G.len : Int), .int .i64 G.err]) (by simp [results, go_sem, hc]) rfl ⟨rfl, ?_⟩
  exact below_set5 (below_via hb1) (Nat.le_refl _) _ _ _ _ _

set_option maxHeartbeats 800000 in
set_option maxRecDepth 100000 in
theorem token_under (c : UInt8) (r : List UInt8) (w : World) (hs : r.length + 1 ≤ 16384) (h1 : letB c = false) (h2 : ((c.toNat : Int) == 95) = true) (hw : wordB c = true) :
    Calls Try.prog 17 #[.string (bt (c :: r))] w fun e w' => e = gotR (speltG (wordKindL ((c :: r).takeWhile wordB)) ((c :: r).takeWhile wordB)) ∧ Below w.heap.size w w' := by
  have hcon := fun W : World => word_any c r W (by omega) hw
  obtain ⟨G, hG⟩ : ∃ G : Got, speltG (wordKindL ((c :: r).takeWhile wordB)) ((c :: r).takeWhile wordB) = G := ⟨_, rfl⟩
  simp only [hG] at hcon ⊢
  have HC := Lib.hid hcon
  clear hcon hG
  go_enter Try.func17, Try.ntmps17
  go_wp2_with fail
  refine (isLetter_any _ _).mono ?_
  rintro e w' ⟨rfl, rfl⟩
  rw [h1]
  go_wp2_with fail
  refine (HC.out _).mono ?_
  rintro e w1 ⟨rfl, hb1⟩
  obtain ⟨hc, hf⟩ := bcell hb1
  have hz : w.heap.size < w1.heap.size := by have := hb1.size; simp at this; omega
  unfold gotR
  go_wp2
  refine bodyPost_ret (v := .tuple #[.agg #[.int .i64 G.kind, .string (bt G.text), .int .i64 G.n, .int .i64 0, .int .i64 0], .int .i64 (G.len : Int), .int .i64 G.err]) (by simp [results, go_sem, hc]) rfl ⟨rfl, ?_⟩
  exact below_set5 (below_via hb1) (Nat.le_refl _) _ _ _ _ _

set_option maxHeartbeats 800000 in
set_option maxRecDepth 100000 in
theorem token_digit (c : UInt8) (r : List UInt8) (w : World) (hs : r.length + 1 ≤ 16384) (h1 : letB c = false) (h2 : ((c.toNat : Int) == 95) = false) (h3 : digB c = true) :
    Calls Try.prog 17 #[.string (bt (c :: r))] w fun e w' => e = gotR (intG (c :: r)) ∧ Below w.heap.size w w' := by
  have hs2 : (c :: r).length ≤ 281474976710656 := by simp; omega
  have hcon := fun W : World => integer_any (c :: r) W hs2
  obtain ⟨G, hG⟩ : ∃ G : Got, intG (c :: r) = G := ⟨_, rfl⟩
  simp only [hG] at hcon ⊢
  have HC := Lib.hid hcon
  clear hcon hG
  go_enter Try.func17, Try.ntmps17
  go_wp2_with fail
  refine (isLetter_any _ _).mono ?_
  rintro e w' ⟨rfl, rfl⟩
  rw [h1]
  go_wp2_with fail
  refine (isDigit_any _ _).mono ?_
  rintro e w' ⟨rfl, rfl⟩
  rw [h3]
  go_wp2_with fail
  refine (HC.out _).mono ?_
  rintro e w1 ⟨rfl, hb1⟩
  obtain ⟨hc, hf⟩ := bcell hb1
  have hz : w.heap.size < w1.heap.size := by have := hb1.size; simp at this; omega
  unfold gotR
  go_wp2
  refine bodyPost_ret (v := .tuple #[.agg #[.int .i64 G.kind, .string (bt G.text), .int .i64 G.n, .int .i64 0, .int .i64 0], .int .i64 (G.len : Int), .int .i64 G.err]) (by simp [results, go_sem, hc]) rfl ⟨rfl, ?_⟩
  exact below_set5 (below_via hb1) (Nat.le_refl _) _ _ _ _ _

set_option maxHeartbeats 800000 in
set_option maxRecDepth 100000 in
theorem token_symbol (c : UInt8) (r : List UInt8) (w : World) (hs : r.length + 1 ≤ 16384) (h1 : letB c = false) (h2 : ((c.toNat : Int) == 95) = false) (h3 : digB c = false) (h4 : symB c = true) :
    Calls Try.prog 17 #[.string (bt (c :: r))] w fun e w' => e = gotR (speltG (operKindL ((c :: r).takeWhile symB)) ((c :: r).takeWhile symB)) ∧ Below w.heap.size w w' := by
  have hcon := fun W : World => operator_any c r W (by omega) h4
  obtain ⟨G, hG⟩ : ∃ G : Got, speltG (operKindL ((c :: r).takeWhile symB)) ((c :: r).takeWhile symB) = G := ⟨_, rfl⟩
  simp only [hG] at hcon ⊢
  have HC := Lib.hid hcon
  clear hcon hG
  go_enter Try.func17, Try.ntmps17
  go_wp2_with fail
  refine (isLetter_any _ _).mono ?_
  rintro e w' ⟨rfl, rfl⟩
  rw [h1]
  go_wp2_with fail
  refine (isDigit_any _ _).mono ?_
  rintro e w' ⟨rfl, rfl⟩
  rw [h3]
  go_wp2_with fail
  refine (isSymbol_any _ _).mono ?_
  rintro e w' ⟨rfl, rfl⟩
  rw [h4]
  go_wp2_with fail
  refine (HC.out _).mono ?_
  rintro e w1 ⟨rfl, hb1⟩
  obtain ⟨hc, hf⟩ := bcell hb1
  have hz : w.heap.size < w1.heap.size := by have := hb1.size; simp at this; omega
  unfold gotR
  go_wp2
  refine bodyPost_ret (v := .tuple #[.agg #[.int .i64 G.kind, .string (bt G.text), .int .i64 G.n, .int .i64 0, .int .i64 0], .int .i64 (G.len : Int), .int .i64 G.err]) (by simp [results, go_sem, hc]) rfl ⟨rfl, ?_⟩
  exact below_set5 (below_via hb1) (Nat.le_refl _) _ _ _ _ _

set_option maxHeartbeats 800000 in
set_option maxRecDepth 100000 in
theorem token_bracket (c : UInt8) (r : List UInt8) (w : World) (hs : r.length + 1 ≤ 16384) (h1 : letB c = false) (h2 : ((c.toNat : Int) == 95) = false) (h3 : digB c = false) (h4 : symB c = false) (h5 : brkB c = true) :
    Calls Try.prog 17 #[.string (bt (c :: r))] w fun e w' => e = gotR (speltG 8 [c]) ∧ Below w.heap.size w w' := by
  have hb := bt_take (c :: r) 1
  simp only [List.take_succ_cons, List.take_zero] at hb
  have hcon := fun W : World => spelt_any 8 [c] W (by simp)
  obtain ⟨G, hG⟩ : ∃ G : Got, speltG 8 [c] = G := ⟨_, rfl⟩
  simp only [hG] at hcon ⊢
  have HC := Lib.hid hcon
  clear hcon hG
  go_enter Try.func17, Try.ntmps17
  go_wp2_with fail
  refine (isLetter_any _ _).mono ?_
  rintro e w' ⟨rfl, rfl⟩
  rw [h1]
  go_wp2_with fail
  refine (isDigit_any _ _).mono ?_
  rintro e w' ⟨rfl, rfl⟩
  rw [h3]
  go_wp2_with fail
  refine (isSymbol_any _ _).mono ?_
  rintro e w' ⟨rfl, rfl⟩
  rw [h4]
  go_wp2_with fail
  refine (isBracket_any _ _).mono ?_
  rintro e w' ⟨rfl, rfl⟩
  rw [h5]
  go_wp2_with fail
  refine (HC.out _).mono ?_
  rintro e w1 ⟨rfl, hb1⟩
  obtain ⟨hc, hf⟩ := bcell hb1
  have hz : w.heap.size < w1.heap.size := by have := hb1.size; simp at this; omega
  unfold gotR
  go_wp2
  refine bodyPost_ret (v := .tuple #[.agg #[.int .i64 G.kind, .string (bt G.text), .int .i64 G.n, .int .i64 0, .int .i64 0], .int .i64 (G.len : Int), .int .i64 G.err]) (by simp [results, go_sem, hc]) rfl ⟨rfl, ?_⟩
  exact below_set5 (below_via hb1) (Nat.le_refl _) _ _ _ _ _

set_option maxHeartbeats 800000 in
set_option maxRecDepth 100000 in
theorem token_quote (c : UInt8) (r : List UInt8) (w : World) (hs : r.length + 1 ≤ 16384) (h1 : letB c = false) (h2 : ((c.toNat : Int) == 95) = false) (h3 : digB c = false) (h4 : symB c = false) (h5 : brkB c = false) (h6 : ((c.toNat : Int) == 34) = true) :
    Calls Try.prog 17 #[.string (bt (c :: r))] w fun e w' => e = gotR (litG (c :: r)) ∧ Below w.heap.size w w' := by
  have hcon := fun W : World => literal_any c r W (by omega)
  obtain ⟨G, hG⟩ : ∃ G : Got, litG (c :: r) = G := ⟨_, rfl⟩
  simp only [hG] at hcon ⊢
  have HC := Lib.hid hcon
  clear hcon hG
  go_enter Try.func17, Try.ntmps17
  go_wp2_with fail
  refine (isLetter_any _ _).mono ?_
  rintro e w' ⟨rfl, rfl⟩
  rw [h1]
  go_wp2_with fail
  refine (isDigit_any _ _).mono ?_
  rintro e w' ⟨rfl, rfl⟩
  rw [h3]
  go_wp2_with fail
  refine (isSymbol_any _ _).mono ?_
  rintro e w' ⟨rfl, rfl⟩
  rw [h4]
  go_wp2_with fail
  refine (isBracket_any _ _).mono ?_
  rintro e w' ⟨rfl, rfl⟩
  rw [h5]
  go_wp2_with fail
  refine (HC.out _).mono ?_
  rintro e w1 ⟨rfl, hb1⟩
  obtain ⟨hc, hf⟩ := bcell hb1
  have hz : w.heap.size < w1.heap.size := by have := hb1.size; simp at this; omega
  unfold gotR
  go_wp2
  refine bodyPost_ret (v := .tuple #[.agg #[.int .i64 G.kind, .string (bt G.text), .int .i64 G.n, .int .i64 0, .int .i64 0], .int .i64 (G.len : Int), .int .i64 G.err]) (by simp [results, go_sem, hc]) rfl ⟨rfl, ?_⟩
  exact below_set5 (below_via hb1) (Nat.le_refl _) _ _ _ _ _

set_option maxHeartbeats 800000 in
set_option maxRecDepth 100000 in
theorem token_none (c : UInt8) (r : List UInt8) (w : World) (_hs : r.length + 1 ≤ 16384) (h1 : letB c = false) (h2 : ((c.toNat : Int) == 95) = false) (h3 : digB c = false) (h4 : symB c = false) (h5 : brkB c = false) (h6 : ((c.toNat : Int) == 34) = false) :
    Calls Try.prog 17 #[.string (bt (c :: r))] w fun e w' => e = gotR (badG 11) ∧ Below w.heap.size w w' := by
  go_enter Try.func17, Try.ntmps17
  go_wp2_with fail
  refine (isLetter_any _ _).mono ?_
  rintro e w' ⟨rfl, rfl⟩
  rw [h1]
  go_wp2_with fail
  refine (isDigit_any _ _).mono ?_
  rintro e w' ⟨rfl, rfl⟩
  rw [h3]
  go_wp2_with fail
  refine (isSymbol_any _ _).mono ?_
  rintro e w' ⟨rfl, rfl⟩
  rw [h4]
  go_wp2_with fail
  refine (isBracket_any _ _).mono ?_
  rintro e w' ⟨rfl, rfl⟩
  rw [h5]
  go_wp2
  refine bodyPost_ret (v := .tuple #[.agg #[.int .i64 0, .string ⟨#[]⟩, .int .i64 0, .int .i64 0, .int .i64 0], .int .i64 0, .int .i64 11]) (by simp [results, go_sem]) rfl ⟨rfl, ?_⟩
  exact below_alloc _ _

theorem token_any (c : UInt8) (r : List UInt8) (w : World) (hs : r.length + 1 ≤ 16384) :
    Calls Try.prog 17 #[.string (bt (c :: r))] w fun e w' => e = gotR (tokG (c :: r)) ∧ Below w.heap.size w w' := by
  rw [tokG_cons]
  cases h1 : letB c with
  | true => exact token_letter c r w hs h1
  | false =>
    by_cases h2 : c = 95
    · rw [if_pos (by simp [h2])]
      exact token_under c r w hs h1 (by rw [h2]; rfl) (by rw [h2]; rfl)
    · have g2 : ((c.toNat : Int) == 95) = false := byte_ne h2
      rw [if_neg (by simp [h2])]
      cases h3 : digB c with
      | true => exact token_digit c r w hs h1 g2 h3
      | false =>
        cases h4 : symB c with
        | true => exact token_symbol c r w hs h1 g2 h3 h4
        | false =>
          cases h5 : brkB c with
          | true => exact token_bracket c r w hs h1 g2 h3 h4 h5
          | false =>
            by_cases h6 : c = 34
            · have g6 : ((c.toNat : Int) == 34) = true := by rw [h6]; rfl
              rw [if_neg Bool.false_ne_true, if_neg Bool.false_ne_true, if_neg Bool.false_ne_true, if_pos (by simp [h6])]
              exact token_quote c r w hs h1 g2 h3 h4 h5 g6
            · have g6 : ((c.toNat : Int) == 34) = false := byte_ne h6
              rw [if_neg Bool.false_ne_true, if_neg Bool.false_ne_true, if_neg Bool.false_ne_true, if_neg (by simp [h6])]
              exact token_none c r w hs h1 g2 h3 h4 h5 g6
end Go.Proofs.Ytbjbmehkcfpahaa
