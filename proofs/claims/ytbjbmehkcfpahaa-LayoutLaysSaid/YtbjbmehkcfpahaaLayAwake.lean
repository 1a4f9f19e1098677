/- The contract of the statements' own function awake of layer 2: it answers true, and what was there before stays. No condition. -/
import Derived.Test.YtbjbmehkcfpahaaLayLay
import Derived.Test.YtbjbmehkcfpahaaRefRead
namespace Go.Proofs.Ytbjbmehkcfpahaa
open Go.RowKit Lx
attribute [local go_sem] bt_size bt_get bt_list bt_toList bt_drop bt_take
attribute [local go_sem ↓] Go.wp_at_zero Go.wp_at_succ

theorem btl_app (a b : List UInt8) : bt a ++ bt b = bt (a ++ b) := by
  apply ByteArray.ext
  simp [bt, ByteArray.data_append]
theorem btl_39 (a : List UInt8) : bt a ++ (⟨#[39]⟩ : ByteArray) = bt (a ++ [39]) := btl_app a [39]
theorem btl_32 (a : List UInt8) : bt a ++ (⟨#[32]⟩ : ByteArray) = bt (a ++ [32]) := btl_app a [32]

def laidB (t : Rt) : List UInt8 := (if t.n == 1 && t.kind == 8 then [39] else []) ++ t.text ++ [32]
def laidL (ts : List Rt) : List UInt8 := ts.flatMap laidB

def rtT (t : Tk) : Rt := ⟨t.kind, t.text, t.n, t.line, t.col⟩

theorem laid_snoc (ts : List Rt) (k : Nat) (h : k < ts.length) : laidL (ts.take (k + 1)) = laidL (ts.take k) ++ laidB ts[k] := by
  rw [List.take_succ_eq_append_getElem h, laidL, List.flatMap_append, laidL]
  simp
theorem laid_le (ts : List Rt) (k : Nat) : (laidL (ts.take k)).length ≤ (laidL ts).length := by
  conv => rhs; rw [← List.take_append_drop k ts, laidL, List.flatMap_append, List.length_append]
  rw [laidL]
  omega

set_option maxHeartbeats 1000000 in
set_option maxRecDepth 100000 in
attribute [local go_sem] btl_app btl_39 btl_32 in
theorem laid_any (w : World) (b off cap : Nat) (ts : List Rt) (h : RtAt w b off ts) (hl : (laidL ts).length ≤ 10000000) (hn : ts.length ≤ 10000000) :
    Calls Try.prog 31 #[.slice (some ⟨b, off, none⟩) ts.length cap] w fun e w' => e = .returned (.string (bt (laidL ts))) ∧ w = w' := by
  have HT := Lib.hid h
  clear h
  go_enter Try.func31, Try.ntmps31
  go_wp2
  go_loop [3, 4] (fun x i => ∃ k : Nat, k ≤ ts.length ∧ i = .int .i64 k ∧ x = .string (bt (laidL (ts.take k)))) (fun _ i => ts.length - (intOf i).toNat)
  case atStart => exact ⟨0, Nat.zero_le _, rfl, rfl⟩
  case round =>
    obtain ⟨k, hk, rfl, rfl⟩ := hrel
    by_cases hlt : k < ts.length
    · obtain ⟨a0, a1, a2, a3, a4⟩ := HT.out k ts[k] (by simp [hlt])
      have HS := Lib.hid (laid_snoc ts k hlt)
      have hle := laid_le ts (k + 1)
      rw [HS.out, List.length_append] at hle
      have hlb : (laidB ts[k]).length = (if ts[k].n == 1 && ts[k].kind == 8 then 1 else 0) + ts[k].text.length + 1 := by unfold laidB; split <;> simp <;> omega
      revert a0 a1 a2 a3 a4 HS hle hlb
      generalize ts[k] = t
      generalize laidL (ts.take k) = l
      intro a0 a1 a2 a3 a4 HS hle hlb
      have HB := Lib.hid hlb
      have hll : l.length + t.text.length + 2 ≤ 10000001 := by rw [hlb] at hle; split at hle <;> omega
      clear hlb hle
      cases h1 : (t.n == 1) with
      | true =>
        cases h2 : (t.kind == 8) with
        | true =>
          have H12 := Lib.hid (And.intro h1 h2)
          go_wp2
          go_round
          case rel => exact ⟨k + 1, by omega, by go_num, by rw [HS.out, laidB, H12.out.1, H12.out.2]; simp⟩
          case measure => simp [intOf]; omega
        | false =>
          have H12 := Lib.hid (And.intro h1 h2)
          go_wp2
          go_round
          case rel => exact ⟨k + 1, by omega, by go_num, by rw [HS.out, laidB, H12.out.1, H12.out.2]; simp⟩
          case measure => simp [intOf]; omega
      | false =>
        have H12 := Lib.hid h1
        go_wp2
        go_round
        case rel => exact ⟨k + 1, by omega, by go_num, by rw [HS.out, laidB, H12.out]; simp⟩
        case measure => simp [intOf]; omega
    · go_wp2
      go_ret
      refine ⟨?_, rfl⟩
      rw [List.take_of_length_le (by omega)]
      rfl

def txtW : List UInt8 := [109, 111, 100, 117, 108, 101, 32, 77, 32, 119, 104, 101, 114, 101, 10, 102, 32, 120, 32, 61, 32, 121, 10, 32, 32, 119, 104, 101, 114, 101, 32, 121, 32, 61, 32, 40, 100, 111, 32, 120, 44, 32, 120, 41, 10, 103, 32, 61, 32, 102]
def wantW : List UInt8 := [109, 111, 100, 117, 108, 101, 32, 77, 32, 119, 104, 101, 114, 101, 32, 39, 123, 32, 102, 32, 120, 32, 61, 32, 121, 32, 119, 104, 101, 114, 101, 32, 39, 123, 32, 121, 32, 61, 32, 40, 32, 100, 111, 32, 39, 123, 32, 120, 32, 39, 125, 32, 44, 32, 120, 32, 41, 32, 39, 125, 32, 39, 59, 32, 103, 32, 61, 32, 102, 32, 39, 125, 32, 32]
/-- The example's tokens. -/
def tksW : List Tk := match readL txtW with | .ok ts => ts | .error _ => []
def outW : List Rt := match layL (tksW.map rtT) with | .ok o => o | .error _ => []
theorem rlW : readL txtW = .ok tksW := by kernel_rfl
theorem lyW : layL (tksW.map rtT) = .ok outW := by kernel_rfl
theorem ldW : laidL outW = wantW := by kernel_rfl
theorem tkW_len : tksW.length = 20 := by kernel_rfl
theorem outW_len : outW.length = 27 := by kernel_rfl

theorem refR_ok {l : List UInt8} {ts : List Tk} {w : World} (h : readL l = .ok ts) (hs : l.length ≤ maxLen) :
    Calls Try.prog 9 #[.string (bt l)] w fun e w' => ∃ v, e = .returned (.tuple #[v, diagV 0 0 0]) ∧ w'.ownsRow w.heap.size 33 5 v ts.length (toksCells ts) ∧ Below w.heap.size w w' :=
  (refRead_any l w hs).mono fun e w' hp => by
    unfold ReadPost at hp
    rw [h] at hp
    exact hp
theorem refR_err {l : List UInt8} {d : Dg} {w : World} (h : readL l = .error d) (hs : l.length ≤ maxLen) :
    Calls Try.prog 9 #[.string (bt l)] w fun e w' => e = .returned (.tuple #[.slice none 0 0, diagV d.line d.col d.num]) ∧ Below w.heap.size w w' :=
  (refRead_any l w hs).mono fun e w' hp => by
    unfold ReadPost at hp
    rw [h] at hp
    exact hp

theorem rtAt_tok {w : World} {g : Nat} {ts : List Tk} (h : TokAt w g ts) : RtAt w g 0 (ts.map rtT) := fun i t hi => by
  rw [List.getElem?_map] at hi
  cases ht : ts[i]? with
  | none => rw [ht] at hi; cases hi
  | some x =>
    rw [ht] at hi
    injection hi with hi
    subst hi
    simpa [rtT] using h i x ht

theorem rts_at : ∀ (ts : List Rt) (i : Nat) (t : Rt), ts[i]? = some t → ∀ j, j < 5 → (rtsCells ts)[i * 5 + j]? = (rtCells t)[j]?
  | [], i, t, h, j, _ => by simp at h
  | a :: ts, 0, t, h, j, hj => by
    simp at h
    subst h
    have hl : (rtCells a).length = 5 := rfl
    simp only [rtsCells, List.flatMap_cons, Nat.zero_mul, Nat.zero_add]
    rw [List.getElem?_append_left (by omega)]
  | a :: ts, i + 1, t, h, j, hj => by
    simp at h
    have hl : (rtCells a).length = 5 := rfl
    have := rts_at ts i t h j hj
    simp only [rtsCells, List.flatMap_cons] at this ⊢
    rw [List.getElem?_append_right (by omega), hl, ← this]
    congr 1
    omega
/-- What a slice of tokens that the call owns looks like. -/
theorem rts_form {w : World} {base : Nat} {v : Value} {ts : List Rt} (h : w.ownsRow base 33 5 v ts.length (rtsCells ts)) (hn : 0 < ts.length) :
    ∃ g cap, v = .slice (some ⟨g, 0, none⟩) ts.length cap ∧ base ≤ g ∧ g < w.heap.size ∧ ts.length ≤ cap ∧ cap ≤ maxLen ∧ RtAt w g 0 ts := by
  rcases own_forms h with ⟨_, h0⟩ | ⟨g, cap, hv, hc, hm⟩
  · omega
  · rw [hv] at h
    have hlt := h.lt g rfl
    refine ⟨g, cap, hv, hlt.1, hlt.2, hc, hm, fun i t hi => ?_⟩
    have hil : i < ts.length := (List.getElem?_eq_some_iff.1 hi).1
    have key : ∀ j, j < 5 → w.cell? ⟨g, 0 + i * 5 + j, none⟩ = (rtCells t)[j]? := fun j hj => by
      rw [Nat.zero_add, h.cellAt (i * 5 + j) (by omega), rts_at ts i t hi j hj]
    exact ⟨key 0 (by omega), key 1 (by omega), key 2 (by omega), key 3 (by omega), key 4 (by omega)⟩

theorem lay_ok {w : World} {b off cap : Nat} {ts o : List Rt} (hl : layL ts = .ok o) (h : RtAt w b off ts) (hb : b < w.heap.size) (hc : ts.length ≤ cap) (hm : cap ≤ maxLen) (hn : ts.length ≤ 1000000) :
    Calls Try.prog 13 #[.slice (some ⟨b, off, none⟩) ts.length cap] w fun e w' => ∃ v, e = .returned (.tuple #[v, dgV 0 0 0]) ∧ w'.ownsRow w.heap.size 33 5 v o.length (rtsCells o) ∧ Below w.heap.size w w' :=
  (lay_any w b off cap ts h hb hc hm hn).mono fun e w' hp => by
    unfold LayPost at hp
    rw [hl] at hp
    exact hp
theorem lay_err {w : World} {b off cap : Nat} {ts : List Rt} {t : Rt} (hl : layL ts = .error t) (h : RtAt w b off ts) (hb : b < w.heap.size) (hc : ts.length ≤ cap) (hm : cap ≤ maxLen) (hn : ts.length ≤ 1000000) :
    Calls Try.prog 13 #[.slice (some ⟨b, off, none⟩) ts.length cap] w fun e w' => e = .returned (.tuple #[.slice none 0 0, dgV t.line t.col 20]) ∧ Below w.heap.size w w' :=
  (lay_any w b off cap ts h hb hc hm hn).mono fun e w' hp => by
    unfold LayPost at hp
    rw [hl] at hp
    exact hp

theorem toks_cap {w : World} {base : Nat} {v : Value} {ts : List Tk} (h : w.ownsRow base 33 5 v ts.length (toksCells ts)) (hn : 0 < ts.length) :
    ∃ g cap, v = .slice (some ⟨g, 0, none⟩) ts.length cap ∧ base ≤ g ∧ g < w.heap.size ∧ ts.length ≤ cap ∧ cap ≤ maxLen ∧ TokAt w g ts := by
  obtain ⟨g, cap, hv, h1, h2, h3, h4⟩ := toks_form h hn
  rcases own_forms h with ⟨h0, _⟩ | ⟨g', cap', hv', _, hm⟩
  · rw [h0] at hv; cases hv
  · rw [hv] at hv'
    injection hv' with _ _ hcc
    subst hcc
    exact ⟨g, cap, hv, h1, h2, h3, hm, h4⟩

set_option maxHeartbeats 1000000 in
set_option maxRecDepth 100000 in
theorem awake2_any (w : World) : Calls Try.prog 12 #[] w fun e w' => e = .returned (.bool true) ∧ Below w.heap.size w w' := by
  go_enter Try.func12, Try.ntmps12
  go_wp2_with fail
  refine (refR_ok (l := txtW) rlW (by simp [txtW, maxLen])).mono ?_
  rintro e w1 ⟨v1, rfl, ho1, hb1⟩
  obtain ⟨g1, cap1, rfl, hg1, hl1, hc1, hm1, ht1⟩ := toks_cap ho1 (by rw [tkW_len]; decide)
  have HT1 := Lib.hid (rtAt_tok (ht1.below (below_alloc w1 (.cells #[.string ⟨#[]⟩, .int .i64 0, .int .i64 0, .int .i64 0] 25)) hl1))
  have HB1 := Lib.hid hb1
  clear ho1 ht1 hb1
  unfold diagV
  rw [show tksW.length = (tksW.map rtT).length from (List.length_map _).symm]
  rw [show tksW.length = (tksW.map rtT).length from (List.length_map _).symm] at hc1
  go_wp2_with fail
  refine (lay_ok lyW HT1.out (by simp; omega) hc1 hm1 (by rw [List.length_map, tkW_len]; decide)).mono ?_
  rintro e w2 ⟨v2, rfl, ho2, hb2⟩
  obtain ⟨g2, cap2, rfl, hg2, hl2, hc2, hm2, ht2⟩ := rts_form ho2 (by rw [outW_len]; decide)
  have HT2 := Lib.hid (ht2.below (below_alloc w2 zeroDg) hl2)
  have HB2 := Lib.hid hb2
  clear ho2 ht2 hb2
  unfold dgV
  go_wp2_with fail
  refine (laid_any _ g2 0 cap2 outW HT2.out (by rw [ldW]; decide) (by rw [outW_len]; decide)).mono ?_
  rintro e w3 ⟨rfl, rfl⟩
  rw [ldW]
  go_wp2
  go_ret
  refine ⟨rfl, ?_⟩
  exact blw2 (blw2 (blw2 HB1.out (below_alloc _ _)) HB2.out) (below_alloc _ _)
end Go.Proofs.Ytbjbmehkcfpahaa
