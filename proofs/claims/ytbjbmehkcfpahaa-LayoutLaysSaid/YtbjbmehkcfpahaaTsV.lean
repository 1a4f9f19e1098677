/- Laws of a slice of tokens, wherever it lies; Same over tokens as they lie in memory; how many tokens are laid. No condition but bounds. -/
import Derived.Test.YtbjbmehkcfpahaaLayEmpty
import Derived.Test.YtbjbmehkcfpahaaLayAwake
import Derived.BigFrame
namespace Go.Proofs.Ytbjbmehkcfpahaa
open Go.RowKit Lx
attribute [local go_sem] bt_size bt_get bt_list bt_toList bt_drop bt_take
attribute [local go_sem ↓] Go.wp_at_zero Go.wp_at_succ

theorem tsV_slice {w : World} {v : Value} {ts : List Rt} (h : TsV w v ts) : ∃ ao cap, v = .slice ao ts.length cap := by
  rcases h with ⟨rfl, ao, cap, hv⟩ | ⟨_, b, off, cap, hv, _⟩
  · exact ⟨ao, cap, hv⟩
  · exact ⟨_, cap, hv⟩
theorem tsV_at {w : World} {ao : Option Addr} {cap : Nat} {ts : List Rt} (h : TsV w (.slice ao ts.length cap) ts) (h0 : 0 < ts.length) :
    ∃ b off, ao = some ⟨b, off, none⟩ ∧ RtAt w b off ts ∧ b < w.heap.size ∧ ts.length ≤ cap ∧ cap ≤ maxLen := by
  rcases h with ⟨rfl, _⟩ | ⟨_, b, off, cap', hv, ha, hb, hc, hm⟩
  · simp at h0
  · injection hv with h1 h2 h3
    subst h1 h3
    exact ⟨b, off, rfl, ha, hb, hc, hm⟩
theorem tsV_own {w : World} {base : Nat} {v : Value} {ts : List Rt} {n : Nat} (h : w.ownsRow base 33 5 v n (rtsCells ts)) (hn : n = ts.length) : TsV w v ts := by
  subst hn
  by_cases h0 : ts.length = 0
  · have : ts = [] := List.eq_nil_of_length_eq_zero h0
    subst this
    rcases own_forms h with ⟨hv, _⟩ | ⟨g, cap, hv, _⟩
    · exact .inl ⟨rfl, _, _, hv⟩
    · exact .inl ⟨rfl, _, _, hv⟩
  · obtain ⟨g, cap, hv, _, hl, hc, hm, ht⟩ := rts_form h (by omega)
    exact .inr ⟨by omega, g, 0, cap, hv, ht, hl, hc, hm⟩

theorem boxAt_sh {w : World} {b : Nat} {t : Rt} (h : w.heap[b]? = some (boxT t)) : BoxAt w b t := by
  refine ⟨?_, ?_, ?_, ?_, ?_⟩ <;> simp [World.cell?, h, boxT]
theorem rt_newsS (w : World) (o1 : Obj) (t : Rt) : ∀ j u, (rtCells t)[j]? = some u → ((w.alloc o1).alloc (boxT t)).cell? ((⟨w.heap.size + 1, 0, none⟩ : Addr).add j) = some u := by
  refine rt_news (T := 33) (fr := (0, 0)) ?_
  have := heap_alloc_new (w.alloc o1) (boxT t)
  rw [show (w.alloc o1).heap.size = w.heap.size + 1 from by simp] at this
  exact this
theorem lay_pos {ts o : List Rt} (h : layL ts = .ok o) : 0 < o.length := by
  unfold layL at h
  split at h
  · cases h
  · split at h
    · cases h
    · rename_i o2 hf
      unfold finL at hf
      simp only at hf
      split at hf
      · cases hf
      · injection hf with hf
        injection h with h
        rw [← h, ← hf]
        simp
        omega

set_option maxHeartbeats 800000 in
set_option maxRecDepth 100000 in
theorem sameT_any (w : World) (g1 g2 o1 o2 cap1 cap2 : Nat) (ts : List Rt) (h1 : RtAt w g1 o1 ts) (h2 : RtAt w g2 o2 ts) (hl : ts.length ≤ 10000000) :
    Calls Try.prog 10 #[.slice (some ⟨g1, o1, none⟩) ts.length cap1, .slice (some ⟨g2, o2, none⟩) ts.length cap2] w fun e w' => e = .returned (.bool true) ∧ ∃ m, w' = w.drewN m := by
  have H1 := Lib.hid h1
  have H2 := Lib.hid h2
  clear h1 h2
  go_enter Try.func10, Try.ntmps10
  go_wp2
  go_loopw [5] (fun i wr => ∃ k m : Nat, k ≤ ts.length ∧ i = .int .i64 k ∧ wr = w.drewN m) (fun i _ => ts.length - (intOf i).toNat)
  case atStart => exact ⟨0, 0, Nat.zero_le _, rfl, rfl⟩
  case round =>
    obtain ⟨k, m, hk, rfl, rfl⟩ := hrel
    by_cases hlt : k < ts.length
    · obtain ⟨a0, a1, a2, a3, a4⟩ := H1.out k ts[k] (by simp [hlt])
      obtain ⟨b0, b1, b2, b3, b4⟩ := H2.out k ts[k] (by simp [hlt])
      revert a0 a1 a2 a3 a4 b0 b1 b2 b3 b4
      generalize ts[k] = tk
      intro a0 a1 a2 a3 a4 b0 b1 b2 b3 b4
      go_wp2
      go_quiet (fail)
      go_wp2
      go_roundw
      case rel => exact ⟨k + 1, _, by omega, by go_num, rfl⟩
      case measure => simp [intOf]; omega
    · go_wp2
      go_ret
      exact ⟨rfl, _, rfl⟩


theorem tok_len5 {t : Rt} {first opened : Bool} {rs r : List En} {o : List Rt} (h : tokL t first opened rs = some (r, o)) : r.length + o.length ≤ rs.length + 5 := by
  cases hc : (opened && curB t) with
  | true =>
    rw [tokL, if_pos hc] at h
    simp at h
    obtain ⟨rfl, rfl⟩ := h
    simp
  | false =>
    rw [tokL_eq t first opened rs hc] at h
    have hb := beg_len t opened rs
    revert h hb
    generalize begL t opened rs = b
    intro h hb
    cases hs : secL t first b with
    | none => rw [hs] at h; cases h
    | some y =>
      obtain ⟨r2, o2⟩ := y
      rw [hs] at h
      simp at h
      obtain ⟨rfl, rfl⟩ := h
      have h2 := sec_len hs
      have h3 := end_len t r2
      unfold mrkSt
      split <;> simp <;> omega
theorem go_len5 : ∀ (ts : List Rt) (prev : Option Rt) (rs r : List En) (o : List Rt), goL prev ts rs = .ok (r, o) → r.length + o.length ≤ rs.length + 5 * ts.length
  | [], _, rs, r, o, h => by
    simp [goL] at h
    obtain ⟨rfl, rfl⟩ := h
    simp
  | t :: ts, prev, rs, r, o, h => by
    rw [goL] at h
    split at h
    · cases h
    · rename_i r1 o1 h1
      split at h
      · cases h
      · rename_i r2 o2 h2
        simp at h
        obtain ⟨rfl, rfl⟩ := h
        have a := tok_len5 h1
        have b := go_len5 ts _ _ _ _ h2
        simp
        omega
theorem lay_len5 {ts o : List Rt} (h : layL ts = .ok o) : o.length ≤ 5 * ts.length + 4 := by
  unfold layL at h
  split at h
  · cases h
  · rename_i rs o1 hg
    have h1 := go_len5 _ _ _ _ _ hg
    have h2 := split_len ts none
    simp only [List.length_nil] at h1
    split at h
    · cases h
    · rename_i o2 hf
      injection h with h
      unfold finL at hf
      simp only at hf
      generalize openedB _ = op at hf
      have hb : (if op = true then beginL (splitL none ts).2 0 rs else (false, rs, [])).2.1.length + (if op = true then beginL (splitL none ts).2 0 rs else (false, rs, [])).2.2.length ≤ rs.length + 2 := by
        split
        · exact begin_len _ _ _
        · simp
      generalize (if op = true then beginL (splitL none ts).2 0 rs else (false, rs, [])) = b at hf hb
      split at hf
      · cases hf
      · rename_i r3 o3 hl
        have h3 := ln_len _ _ _ _ _ _ hl
        injection hf with hf
        rw [← h, ← hf]
        simp only [List.length_append, List.length_cons, List.length_nil]
        omega
end Go.Proofs.Ytbjbmehkcfpahaa
