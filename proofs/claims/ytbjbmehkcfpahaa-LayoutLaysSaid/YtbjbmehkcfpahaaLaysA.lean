/- The walk of the law LayoutLays: for any text it answers true and leaves what was there. No condition but that the text is no longer than 2^47 bytes. -/
import Derived.Test.YtbjbmehkcfpahaaRfA
import Derived.Test.YtbjbmehkcfpahaaLayAwake
import Derived.Test.YtbjbmehkcfpahaaRfLay
import Derived.Test.YtbjbmehkcfpahaaTsV
namespace Go.Proofs.Ytbjbmehkcfpahaa
section
open Go.RowKit Lx

theorem goodK (k : Int) {t : List UInt8} {n l c : Int} (h7 : k ≠ 7) (h8 : k ≠ 8) : GoodT ⟨k, t, n, l, c⟩ := ⟨fun h => absurd h h7, fun h => absurd h h8⟩
theorem good7 {t : List UInt8} {n l c : Int} (h : oneB [[40], [41], [91], [93], [123], [125], [44]] t = false) : GoodT ⟨7, t, n, l, c⟩ := ⟨fun _ => h, fun e => absurd (show (7 : Int) = 8 from e) (by decide)⟩
theorem good8 {t : List UInt8} {n l c : Int} (h : oneB [[119, 104, 101, 114, 101], [108, 101, 116], [100, 111], [111, 102], [116, 104, 101, 110], [101, 108, 115, 101], [105, 110], [105, 102], [99, 97, 115, 101]] t = false) : GoodT ⟨8, t, n, l, c⟩ := ⟨fun e => absurd (show (8 : Int) = 7 from e) (by decide), fun _ => h⟩
theorem got_good (l : List UInt8) : GoodT ⟨(tokG l).kind, (tokG l).text, (tokG l).n, 0, 0⟩ := by
  unfold tokG
  simp only
  split
  · unfold speltG wordKindL
    generalize l.takeWhile wordB = t
    by_cases h : oneB wordsL t = true
    · rw [if_pos h]
      refine good7 ?_
      simp [oneB, wordsL] at h
      rcases h with h | h | h | h | h | h | h | h | h | h | h | h | h | h | h | h | h <;> (subst h; rfl)
    · rw [if_neg h]
      by_cases h2 : t = [95]
      · rw [if_pos h2, h2]
        exact good8 rfl
      · rw [if_neg h2]
        split
        · exact goodK 2 (by decide) (by decide)
        · exact goodK 1 (by decide) (by decide)
  · split
    · unfold intG
      split
      · exact goodK 0 (by decide) (by decide)
      · exact goodK 5 (by decide) (by decide)
    · split
      · unfold speltG operKindL
        generalize l.takeWhile symB = t
        by_cases h : oneB signsL t = true
        · rw [if_pos h]
          refine good8 ?_
          simp [oneB, signsL] at h
          rcases h with h | h | h | h | h | h | h | h <;> (subst h; rfl)
        · rw [if_neg h]
          split
          · exact goodK 4 (by decide) (by decide)
          · exact goodK 3 (by decide) (by decide)
      · split
        · refine good8 ?_
          cases l with
          | nil => rfl
          | cons c l => simp [speltG, oneB]
        · split
          · unfold litG
            split
            · exact goodK 0 (by decide) (by decide)
            · exact goodK 6 (by decide) (by decide)
          · exact goodK 0 (by decide) (by decide)

theorem lex_good : ∀ (k : Nat) (l : List UInt8) (p : Nat × Nat) (ts : List Tk), lexL k l p = .ok ts → (∀ t ∈ ts, GoodT (rtT t)) ∧ ts.length ≤ k
  | 0, l, p, ts, h => by
    simp [lexL] at h
    subst h
    simp
  | k + 1, l, p, ts, h => by
    rw [lexL] at h
    split at h
    · cases h
    · obtain ⟨a, b⟩ := lex_good k _ _ ts h
      exact ⟨a, by omega⟩
    · split at h
      · injection h with h
        subst h
        refine ⟨fun t ht => ?_, by simp⟩
        simp at ht
        subst ht
        exact goodK 9 (by decide) (by decide)
      · split at h
        · cases hx : lexL k (l.drop (tokG l).len) (advL p (l.take (tokG l).len)) with
          | error d => rw [hx] at h; cases h
          | ok r =>
            rw [hx] at h
            simp only [Except.map] at h
            injection h with h
            subst h
            obtain ⟨a, b⟩ := lex_good k _ _ r hx
            refine ⟨fun t ht => ?_, by simp; omega⟩
            rcases List.mem_cons.1 ht with rfl | ht
            · exact got_good l
            · exact a t ht
        · cases h
theorem read_good {l : List UInt8} {ts : List Tk} (h : readL l = .ok ts) : (∀ t ∈ ts.map rtT, GoodT t) ∧ ts.length ≤ 16385 := by
  unfold readL at h
  split at h
  · cases h
  · rename_i hl
    obtain ⟨a, b⟩ := lex_good _ _ _ _ h
    refine ⟨fun t ht => ?_, by omega⟩
    obtain ⟨x, hx, rfl⟩ := List.mem_map.1 ht
    exact a x hx
end

section
open Go.RowKit Lx
attribute [local go_sem] bt_size bt_get bt_list bt_toList bt_drop bt_take
attribute [local go_sem ↓] Go.wp_at_zero Go.wp_at_succ

theorem lex_num : ∀ (k : Nat) (l : List UInt8) (p : Nat × Nat) (d : Dg), lexL k l p = .error d → d.num ≠ 0
  | 0, l, p, d, h => by simp [lexL] at h
  | k + 1, l, p, d, h => by
    rw [lexL] at h
    split at h
    · injection h with h
      subst h
      exact (show (14 : Int) ≠ 0 by decide)
    · exact lex_num k _ _ d h
    · split at h
      · cases h
      · split at h
        · cases hx : lexL k (l.drop (tokG l).len) (advL p (l.take (tokG l).len)) with
          | error d' =>
            rw [hx] at h
            simp only [Except.map] at h
            injection h with h
            subst h
            exact lex_num k _ _ _ hx
          | ok r => rw [hx] at h; cases h
        · rename_i he
          injection h with h
          subst h
          exact he
theorem read_num {l : List UInt8} {d : Dg} (h : readL l = .error d) : d.num ≠ 0 := by
  unfold readL at h
  split at h
  · injection h with h
    subst h
    exact (show (10 : Int) ≠ 0 by decide)
  · exact lex_num _ _ _ _ h
theorem read_pos {l : List UInt8} {ts : List Tk} (h : readL l = .ok ts) : 0 < ts.length := by
  by_cases hl : 16384 < l.length
  · rw [readL, if_pos hl] at h
    cases h
  · have rT : readL l = lx l (1, 1) := readL_lx (by omega)
    rw [h] at rT
    obtain ⟨fr, e⟩ := lx_ne _ _ _ _ (Nat.le_refl _) rT.symm
    rw [e]
    simp

set_option maxHeartbeats 800000 in
set_option maxRecDepth 100000 in
theorem sameN (w : World) : Calls Try.prog 10 #[.slice none 0 0, .slice none 0 0] w fun e w' => e = .returned (.bool true) ∧ w = w' := by
  go_enter Try.func10, Try.ntmps10
  go_wp2
  refine wp_loop_rounds 1 ?_
  rw [rounds_succ]
  go_wp2
  go_ret
  exact ⟨rfl, rfl⟩

set_option maxHeartbeats 1600000 in
set_option maxRecDepth 100000 in
theorem lays_err (t : List UInt8) (w : World) (h1 : t.length ≤ 140737488355328) (d : Dg) (hT : readL t = .error d) :
    Calls Try.prog 4 #[.string (bt t)] w fun e w' => e = .returned (.bool true) ∧ Below w.heap.size w w' := by
  have HT := Lib.hid hT
  have hnum := read_num hT
  have hnumB : (d.num == 0) = false := by simpa using hnum
  clear hT
  go_enter Try.func4, Try.ntmps4
  go_wp2_with fail
  refine (refR_err HT.out (by simp [maxLen]; omega)).mono ?_
  rintro e w1 ⟨rfl, hb1⟩
  have HB1 := Lib.hid hb1
  clear hb1
  unfold diagV
  go_wp2_with fail
  refine (awake2_any _).mono ?_
  rintro e w8 ⟨rfl, hb8⟩
  have HB8 := Lib.hid (blwS (HB1.out.alloc HB1.out.size _) hb8 (by have := HB1.out.size; simp; omega))
  clear hb8
  go_wp2
  go_ret
  exact ⟨rfl, HB8.out⟩

theorem dg_at (w : World) (l c n : Int) : (w.alloc (.cells #[.string ⟨#[]⟩, .int .i64 l, .int .i64 c, .int .i64 n] 25)).heap[w.heap.size]? = some (.cells #[.string ⟨#[]⟩, .int .i64 l, .int .i64 c, .int .i64 n] 25) := heap_alloc_new w _

set_option maxHeartbeats 4000000 in
set_option maxRecDepth 100000 in
theorem lays_ok (t : List UInt8) (w : World) (h1 : t.length ≤ 140737488355328) (ts : List Tk) (hT : readL t = .ok ts) :
    Calls Try.prog 4 #[.string (bt t)] w fun e w' => e = .returned (.bool true) ∧ Below w.heap.size w w' := by
  have HT := Lib.hid hT
  obtain ⟨hg, hlen⟩ := read_good hT
  have HGd := Lib.hid hg
  have hpos := read_pos hT
  clear hT hg
  go_enter Try.func4, Try.ntmps4
  go_wp2_with fail
  refine (refR_ok HT.out (by simp [maxLen]; omega)).mono ?_
  rintro e w1 ⟨v, rfl, ho1, hb1⟩
  obtain ⟨g1, cap1, rfl, hg1, hl1, hc1, hm1, ht1⟩ := toks_cap ho1 hpos
  have HR1 := Lib.hid (rtAt_tok ht1)
  have HB1 := Lib.hid hb1
  have hz1 := hb1.size
  clear hb1 ho1 ht1 HT
  obtain ⟨rs, hrs⟩ : ∃ rs, rs = ts.map rtT := ⟨_, rfl⟩
  rw [← hrs] at HR1 HGd
  have hrl : rs.length = ts.length := by rw [hrs]; simp
  clear hrs
  have HRl := Lib.hid hrl
  rw [← hrl] at hc1 hpos hlen
  rw [← hrl]
  clear hrl
  unfold diagV
  go_wp2_with fail
  refine (lay_any _ g1 0 cap1 rs (HR1.out.below (below_alloc w1 _) hl1) (by simp; omega) hc1 hm1 (by omega)).mono ?_
  rintro e w2 hp
  unfold LayPost at hp
  cases hly : layL rs with
  | error te =>
    rw [hly] at hp
    obtain ⟨rfl, hb2⟩ := hp
    have hz2 := hb2.size
    simp at hz2
    have HB2 := Lib.hid (blwS (HB1.out.alloc HB1.out.size _) hb2 (by simp; omega))
    have HR2 := Lib.hid ((HR1.out.below (below_alloc w1 (.cells #[.string ⟨#[]⟩, .int .i64 0, .int .i64 0, .int .i64 0] 25)) hl1).below hb2 (by simp; omega))
    clear hb2
    unfold dgV
    go_wp2_with fail
    refine (layRef_any _ g1 0 cap1 rs (HR2.out.below (below_alloc w2 _) (by omega)) (by simp; omega) hc1 hm1 (by omega) HGd.out).mono ?_
    rintro e w3 hp
    unfold LayPost at hp
    rw [hly] at hp
    obtain ⟨rfl, hb3⟩ := hp
    have hz3 := hb3.size
    simp at hz3
    have hw3 : w2.heap.size < w3.heap.size := by omega
    have hw2 : w2.heap.size ≠ w3.heap.size := by omega
    have hDg : w3.heap[w2.heap.size]? = some (.cells #[.string ⟨#[]⟩, .int .i64 te.line, .int .i64 te.col, .int .i64 20] 25) := (hb3.block _ (by simp)).trans (dg_at w2 _ _ _)
    have y0 : w3.cell? ⟨w2.heap.size, 0, none⟩ = some (.string ⟨#[]⟩) := by simp [World.cell?, hDg]
    have y1 : w3.cell? ⟨w2.heap.size, 1, none⟩ = some (.int .i64 te.line) := by simp [World.cell?, hDg]
    have y2 : w3.cell? ⟨w2.heap.size, 2, none⟩ = some (.int .i64 te.col) := by simp [World.cell?, hDg]
    have y3 : w3.cell? ⟨w2.heap.size, 3, none⟩ = some (.int .i64 20) := by simp [World.cell?, hDg]
    have HB3 := Lib.hid (blwS (HB2.out.alloc HB2.out.size _) hb3 (by have := HB2.out.size; simp; omega))
    clear hb3 hDg
    unfold dgV
    go_wp2_with fail
    refine (sameN _).mono ?_
    rintro e w4 ⟨rfl, rfl⟩
    go_wp2_with fail
    refine (awake2_any _).mono ?_
    rintro e w8 ⟨rfl, hb8⟩
    have HB8 := Lib.hid (blwS (HB3.out.alloc HB3.out.size _) hb8 (by have := HB3.out.size; simp; omega))
    clear hb8
    go_wp2
    go_ret
    exact ⟨rfl, HB8.out⟩
  | ok o =>
    have hol : o.length ≤ 900004 := by have := lay_len5 hly; omega
    have hop := lay_pos hly
    rw [hly] at hp
    obtain ⟨v2, rfl, ho2, hb2⟩ := hp
    obtain ⟨g2, cap2, rfl, hg2, hl2, hc2, hm2, ht2⟩ := rts_form ho2 hop
    have hz2 := hb2.size
    simp at hz2
    have HB2 := Lib.hid (blwS (HB1.out.alloc HB1.out.size _) hb2 (by simp; omega))
    have HR2 := Lib.hid ((HR1.out.below (below_alloc w1 (.cells #[.string ⟨#[]⟩, .int .i64 0, .int .i64 0, .int .i64 0] 25)) hl1).below hb2 (by simp; omega))
    have HA2 := Lib.hid ht2
    clear hb2 ho2 ht2
    unfold dgV
    go_wp2_with fail
    refine (layRef_any _ g1 0 cap1 rs (HR2.out.below (below_alloc w2 _) (by omega)) (by simp; omega) hc1 hm1 (by omega) HGd.out).mono ?_
    rintro e w3 hp
    unfold LayPost at hp
    rw [hly] at hp
    obtain ⟨v3, rfl, ho3, hb3⟩ := hp
    obtain ⟨g3, cap3, rfl, hg3, hl3, hc3, hm3, ht3⟩ := rts_form ho3 hop
    have hz3 := hb3.size
    simp at hz3
    have hw3 : w2.heap.size < w3.heap.size := by omega
    have hw2 : w2.heap.size ≠ w3.heap.size := by omega
    have hDg : w3.heap[w2.heap.size]? = some (.cells #[.string ⟨#[]⟩, .int .i64 0, .int .i64 0, .int .i64 0] 25) := (hb3.block _ (by simp)).trans (dg_at w2 _ _ _)
    have y0 : w3.cell? ⟨w2.heap.size, 0, none⟩ = some (.string ⟨#[]⟩) := by simp [World.cell?, hDg]
    have y1 : w3.cell? ⟨w2.heap.size, 1, none⟩ = some (.int .i64 0) := by simp [World.cell?, hDg]
    have y2 : w3.cell? ⟨w2.heap.size, 2, none⟩ = some (.int .i64 0) := by simp [World.cell?, hDg]
    have y3 : w3.cell? ⟨w2.heap.size, 3, none⟩ = some (.int .i64 0) := by simp [World.cell?, hDg]
    have HB3 := Lib.hid (blwS (HB2.out.alloc HB2.out.size _) hb3 (by have := HB2.out.size; simp; omega))
    have HSm := Lib.hid (sameT_any (w3.alloc zeroDg) g2 g3 0 0 cap2 cap3 o (((HA2.out.below (below_alloc w2 _) hl2).below hb3 (by simp; omega)).below (below_alloc _ _) (by omega)) (ht3.below (below_alloc _ _) hl3) (by omega))
    clear hb3 hDg ho3 ht3
    unfold dgV
    go_wp2_with fail
    refine HSm.out.mono ?_
    rintro e w7 ⟨rfl, m7, rfl⟩
    go_wp2_with fail
    refine (awake2_any _).mono ?_
    rintro e w8 ⟨rfl, hb8⟩
    have HB8 := Lib.hid (blwS (bls_drewN (HB3.out.alloc HB3.out.size zeroDg) m7) hb8 (show w.heap.size ≤ (w3.alloc zeroDg).heap.size by have := HB3.out.size; simp; omega))
    clear hb8
    go_wp2
    go_ret
    exact ⟨rfl, HB8.out⟩

theorem lays_any (t : List UInt8) (w : World) (h1 : t.length ≤ 140737488355328) :
    Calls Try.prog 4 #[.string (bt t)] w fun e w' => e = .returned (.bool true) ∧ Below w.heap.size w w' := by
  cases hx : readL t with
  | error d => exact lays_err t w h1 d hx
  | ok ts => exact lays_ok t w h1 ts hx
end
end Go.Proofs.Ytbjbmehkcfpahaa
