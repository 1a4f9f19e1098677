/- Contracts of the methods wrong and skip of source, over a source that lies whole in a block of its own. Places and rests are those of a text of at most 16384 bytes. -/
import Derived.Test.YtbjbmehkcfpahaaSource
import Derived.Deep.LoopGhost
namespace Go.Proofs.Ytbjbmehkcfpahaa
open Go.RowKit Lx
attribute [local go_sem] bt_size bt_get bt_list bt_toList bt_drop bt_take

def diagV (l c num : Int) : Value := .agg #[.string ⟨#[]⟩, .int .i64 l, .int .i64 c, .int .i64 num]

set_option maxHeartbeats 800000 in
set_option maxRecDepth 100000 in
theorem wrong_any (w : World) (g : Nat) (r : List UInt8) (p : Nat × Nat) (num : Int) (hsrc : SrcAt w g r p) :
    Calls Try.prog 16 #[.pointer (some ⟨g, 0, none⟩), .int .i64 num] w fun e w' => e = .returned (diagV p.1 p.2 num) ∧ Below w.heap.size w w' := by
  obtain ⟨c0, c1, c2⟩ := src_cells hsrc
  have hlt := src_lt hsrc
  clear c0 hsrc
  go_enter Try.func16, Try.ntmps16
  go_wp2
  go_region
  all_goals (try go_wp2)
  all_goals exact bodyPost_ret (v := diagV p.1 p.2 num) (by simp [results, go_sem, diagV]) rfl ⟨rfl, (below_alloc _ _).drew⟩

theorem blk_le : ∀ (k : Nat) (d : Int) (l : List UInt8) (n : Nat), blkL k d l = some n → n ≤ l.length
  | 0, _, _, _, h => by cases h
  | _ + 1, _, [], _, h => by cases h
  | k + 1, d, a :: l, n, h => by
    have two : ∀ m : List UInt8, m.length = 2 → m.isPrefixOf (a :: l) = true → 2 ≤ l.length + 1 := fun m hm hp => by
      have := List.IsPrefix.length_le (List.isPrefixOf_iff_prefix.1 hp)
      simp at this
      omega
    rw [blkL] at h
    split at h
    · rename_i ho
      have h2 := two [123, 45] rfl ho
      split at h
      · simp at h; subst h; simpa using h2
      · cases hb : blkL k (d + 1) (l.drop 1) with
        | none => rw [hb] at h; cases h
        | some m =>
          rw [hb] at h
          have := blk_le k _ _ _ hb
          simp at h this ⊢
          omega
    · split at h
      · rename_i hc
        have h2 := two [45, 125] rfl hc
        split at h
        · simp at h; subst h; simpa using h2
        · cases hb : blkL k (d - 1) (l.drop 1) with
          | none => rw [hb] at h; cases h
          | some m =>
            rw [hb] at h
            have := blk_le k _ _ _ hb
            simp at h this ⊢
            omega
      · split at h
        · simp at h; subst h; simp
        · cases hb : blkL k d l with
          | none => rw [hb] at h; cases h
          | some m =>
            rw [hb] at h
            have := blk_le k _ _ _ hb
            simp at h ⊢
            omega

theorem line_le (l : List UInt8) : lineL l ≤ l.length := by
  unfold lineL
  split
  · omega
  · exact takeWhile_len _ _

theorem gap_le (l : List UInt8) (n : Nat) (h : gapL l = some n) : n ≤ l.length := by
  unfold gapL at h
  split at h
  · split at h
    · exact blk_le _ _ _ _ h
    · simp at h; subst h; exact line_le l
  · simp at h; subst h; exact takeWhile_len _ _

theorem lexL_gap {k g : Nat} {l : List UInt8} {p : Nat × Nat} (h : gapL l = some (g + 1)) : lexL (k + 1) l p = lexL k (l.drop (g + 1)) (advL p (l.take (g + 1))) := by
  rw [lexL, h]

theorem bd_adv {r : List UInt8} {p : Nat × Nat} {n : Nat} (h : Bd r p) (h1 : 1 ≤ p.2) (hn : n ≤ r.length) : Bd (r.drop n) (advL p (r.take n)) ∧ 1 ≤ (advL p (r.take n)).2 := by
  obtain ⟨a, b, c⟩ := h
  have hl : (r.take n).length = n := by simp; omega
  have := adv_bd (r.take n) p h1
  have h2 : 1 ≤ (advL p (r.take n)).2 := by rw [advL_eq]; split <;> simp; omega
  refine ⟨⟨?_, ?_, ?_⟩, h2⟩ <;> simp <;> omega

/-- Behind skip: nothing more is skipped, or a comment is not closed; the lexer's answer is the same. -/
def SkipPost (w : World) (g : Nat) (r : List UInt8) (p : Nat × Nat) (k : Nat) (e : Ending) (w' : World) : Prop :=
  ∃ (b : Bool) (r' : List UInt8) (p' : Nat × Nat) (k' : Nat), e = .returned (.bool b) ∧ SrcAt w' g r' p' ∧ w.grownBy w' (some g) ∧ Bd r' p' ∧ 1 ≤ p'.2 ∧ r'.length ≤ r.length ∧ r'.length < k' ∧ lexL k r p = lexL k' r' p' ∧
    gapL r' = if b then some 0 else none

/-- At the head of each round of skip's loop. -/
def SkipRel (w : World) (g : Nat) (r : List UInt8) (p : Nat × Nat) (k m : Nat) (wr : World) : Prop :=
  ∃ (r' : List UInt8) (p' : Nat × Nat) (k' : Nat), SrcAt wr g r' p' ∧ w.grownBy wr (some g) ∧ Bd r' p' ∧ 1 ≤ p'.2 ∧ r'.length ≤ r.length ∧ r'.length < k' ∧ lexL k r p = lexL k' r' p' ∧ r'.length < m

theorem grown_trans2 {a b c : World} {g : Nat} (h : a.grownBy b (some g)) (k : b.grownBy c (some g)) : a.grownBy c (some g) :=
  ⟨k.os.trans h.os, k.tape.trans h.tape, k.output.trans h.output, Nat.le_trans h.size k.size, fun i hi hn => (k.block i (Nat.lt_of_lt_of_le hi h.size) hn).trans (h.block i hi hn)⟩

set_option maxHeartbeats 800000 in
set_option maxRecDepth 100000 in
theorem skip_any (w : World) (g : Nat) (r : List UInt8) (p : Nat × Nat) (k : Nat) (hsrc : SrcAt w g r p) (hbd : Bd r p) (h1 : 1 ≤ p.2) (hk : r.length < k) :
    Calls Try.prog 15 #[.pointer (some ⟨g, 0, none⟩)] w fun e w' => SkipPost w g r p k e w' := by
  have HS := Lib.hid hsrc
  have HB := Lib.hid hbd
  clear hsrc hbd
  go_enter Try.func15, Try.ntmps15
  go_wp2
  go_loopg [2] (r.length + 1) (fun m v wr => SkipRel w g r p k m wr)
  case atStart => exact ⟨r, p, k, HS.out, ⟨rfl, rfl, rfl, Nat.le_refl _, fun _ _ _ => rfl⟩, HB.out, h1, Nat.le_refl _, hk, rfl, by omega⟩
  case round =>
    obtain ⟨r', p', k', hs, hg, hb, hp1, hle, hk', hlex, hm⟩ := hrel
    obtain ⟨c0, c1, c2⟩ := src_cells hs
    have H := Lib.hid hs
    have HG := Lib.hid hg
    have HBd := Lib.hid hb
    have HL := Lib.hid hlex
    have hmax : r'.length ≤ maxLen := by have := hb.2.2; simp [maxLen]; omega
    clear hs hg hb hlex c1 c2
    go_wp2_with fail
    refine (gap_any _ _ hmax).mono ?_
    rintro e w1 ⟨rfl, rfl⟩
    cases hgap : gapL r' with
    | none =>
      have HX := Lib.hid hgap
      clear hgap
      unfold gapR
      simp only [Option.getD_none, Option.isSome_none]
      go_wp2
      go_ret
      exact ⟨false, r', p', k', rfl, H.out, HG.out, HBd.out, hp1, hle, hk', HL.out, HX.out⟩
    | some n =>
      have HX := Lib.hid hgap
      have hn := gap_le _ _ hgap
      clear hgap
      unfold gapR
      simp only [Option.getD_some, Option.isSome_some]
      match n, HX, hn with
      | 0, HX, hn =>
        go_wp2
        go_ret
        exact ⟨true, r', p', k', rfl, H.out, HG.out, HBd.out, hp1, hle, hk', HL.out, HX.out⟩
      | j + 1, HX, hn =>
        go_wp2_with fail
        refine (advance_any _ g r' p' (j + 1) H.out hn HBd.out).mono ?_
        rintro e w1 ⟨rfl, hpost⟩
        have HP := Lib.hid hpost
        clear hpost
        go_wp2
        go_roundg (r'.length)
        case measure => exact hm
        case rel =>
          obtain ⟨q1, q2⟩ := HP.out
          obtain ⟨b1, b2⟩ := bd_adv HBd.out hp1 hn
          obtain ⟨k2, rfl⟩ : ∃ k2, k' = k2 + 1 := ⟨k' - 1, by omega⟩
          refine ⟨_, _, k2, q1, grown_trans2 HG.out q2, b1, b2, by simp; omega, by simp; omega, by rw [HL.out, lexL_gap HX.out], by simp; omega⟩
end Go.Proofs.Ytbjbmehkcfpahaa
