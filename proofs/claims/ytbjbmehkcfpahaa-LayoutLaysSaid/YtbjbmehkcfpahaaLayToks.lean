/- Contracts of layout's isWord, isSign, isOpener, isCloser and isMarked, and of the library's Index and Contains over strings: what was there before stays. No condition but short lists. -/
import Derived.Test.YtbjbmehkcfpahaaLay
import Derived.Test.YtbjbmehkcfpahaaKinds
namespace Go.Proofs.Ytbjbmehkcfpahaa
open Go.RowKit Lx
attribute [local go_sem] bt_size bt_get bt_list bt_toList bt_drop bt_take

/-- A token as a value. -/
def tokV (t : Rt) : Value := .agg #[.int .i64 t.kind, .string (bt t.text), .int .i64 t.n, .int .i64 t.line, .int .i64 t.col]

/-- What slices.Contains asks: is there a place? -/
def IdxPost (ws : List (List UInt8)) (l : List UInt8) (w : World) (e : Ending) (w' : World) : Prop := ∃ i : Int, e = .returned (.int .i64 i) ∧ decide (0 ≤ i) = oneB ws l ∧ w = w'

set_option maxHeartbeats 400000 in
set_option maxRecDepth 100000 in
theorem slIndex_any (l : List UInt8) (ws : List (List UInt8)) (b cap : Nat) (w : World) (hn : ws.length ≤ 100)
    (hc : ∀ j (h : j < ws.length), w.cell? ⟨b, j, none⟩ = some (.string (bt ws[j]))) :
    Calls Try.prog 106 #[.slice (some ⟨b, 0, none⟩) ws.length cap, .string (bt l)] w fun e w' => IdxPost ws l w e w' := by
  have HC := Lib.hid hc
  clear hc
  go_enter Try.func106, Try.ntmps106
  go_wp2
  go_loop [8] (fun i => ∃ k : Nat, k ≤ ws.length ∧ i = .int .i64 k ∧ (ws.take k).contains l = false) (fun i => ws.length - (intOf i).toNat)
  case atStart => exact ⟨0, Nat.zero_le _, rfl, rfl⟩
  case round =>
    obtain ⟨k, hk, rfl, hall⟩ := hrel
    have H := Lib.hid hall
    clear hall
    by_cases hlt : k < ws.length
    · have hcell := HC.out k hlt
      cases he : (l == ws[k]) with
      | true =>
        have HE := Lib.hid he
        go_wp2
        go_ret
        refine ⟨k, rfl, ?_, rfl⟩
        have : l = ws[k] := by simpa using HE.out
        rw [this]
        simp [oneB]
      | false =>
        have HE := Lib.hid he
        go_wp2
        go_round
        case rel => exact ⟨k + 1, by omega, by go_num, contains_take ws l k hlt H.out HE.out⟩
        case measure => simp [intOf]; omega
    · go_wp2
      go_ret
      refine ⟨-1, rfl, ?_, rfl⟩
      have h := H.out
      rw [List.take_of_length_le (by omega)] at h
      show false = oneB ws l
      exact h.symm

set_option maxHeartbeats 400000 in
set_option maxRecDepth 100000 in
theorem slContains_any (l : List UInt8) (ws : List (List UInt8)) (b cap : Nat) (w : World) (hn : ws.length ≤ 100)
    (hc : ∀ j (h : j < ws.length), w.cell? ⟨b, j, none⟩ = some (.string (bt ws[j]))) :
    Calls Try.prog 87 #[.slice (some ⟨b, 0, none⟩) ws.length cap, .string (bt l)] w fun e w' => e = .returned (.bool (oneB ws l)) ∧ w = w' := by
  have HC := Lib.hid hc
  clear hc
  go_enter Try.func87, Try.ntmps87
  go_wp2_with fail
  refine (slIndex_any l ws b cap w hn HC.out).mono ?_
  rintro e w' ⟨i, rfl, hi, rfl⟩
  have HI := Lib.hid hi
  clear hi
  go_wp2
  go_ret
  exact ⟨ret_bool HI.out, rfl⟩

theorem str_cells (w : World) (o : Obj) (b : Nat) (ws : List (List UInt8)) (h : ∀ j (h : j < ws.length), w.cell? ⟨b, j, none⟩ = some (.string (bt ws[j]))) (hb : b < w.heap.size) :
    ∀ j (h : j < ws.length), (w.alloc o).cell? ⟨b, j, none⟩ = some (.string (bt ws[j])) := fun j hj => by
  rw [(below_alloc w o).cell (p := ⟨b, j, none⟩) hb]
  exact h j hj

set_option maxHeartbeats 400000 in
set_option maxRecDepth 100000 in
theorem isWord_any (t : Rt) (ws : List (List UInt8)) (b cap : Nat) (w : World) (hn : ws.length ≤ 100) (hb : b < w.heap.size)
    (hc : ∀ j (h : j < ws.length), w.cell? ⟨b, j, none⟩ = some (.string (bt ws[j]))) :
    Calls Try.prog 65 #[tokV t, .slice (some ⟨b, 0, none⟩) ws.length cap] w fun e w' => e = .returned (.bool (wordT t ws)) ∧ Below w.heap.size w w' := by
  have HC := Lib.hid hc
  clear hc
  unfold tokV
  cases hk : (t.kind == 7) with
  | true =>
    go_enter Try.func65, Try.ntmps65
    go_wp2_with fail
    refine (slContains_any t.text ws b cap _ hn (str_cells w _ b ws HC.out hb)).mono ?_
    rintro e w' ⟨rfl, rfl⟩
    go_wp2
    go_ret
    exact ⟨ret_bool (by simp [wordT, hk]), below_alloc _ _⟩
  | false =>
    go_enter Try.func65, Try.ntmps65
    go_wp2
    go_ret
    exact ⟨ret_bool (by simp [wordT, hk]), below_alloc _ _⟩

set_option maxHeartbeats 400000 in
set_option maxRecDepth 100000 in
theorem isSign_any (t : Rt) (ws : List (List UInt8)) (b cap : Nat) (w : World) (hn : ws.length ≤ 100) (hb : b < w.heap.size)
    (hc : ∀ j (h : j < ws.length), w.cell? ⟨b, j, none⟩ = some (.string (bt ws[j]))) :
    Calls Try.prog 55 #[tokV t, .slice (some ⟨b, 0, none⟩) ws.length cap] w fun e w' => e = .returned (.bool (signT t ws)) ∧ Below w.heap.size w w' := by
  have HC := Lib.hid hc
  clear hc
  unfold tokV
  cases hk : (t.kind == 8) with
  | true =>
    go_enter Try.func55, Try.ntmps55
    go_wp2_with fail
    refine (slContains_any t.text ws b cap _ hn (str_cells w _ b ws HC.out hb)).mono ?_
    rintro e w' ⟨rfl, rfl⟩
    go_wp2
    go_ret
    exact ⟨ret_bool (by simp [signT, hk]), below_alloc _ _⟩
  | false =>
    go_enter Try.func55, Try.ntmps55
    go_wp2
    go_ret
    exact ⟨ret_bool (by simp [signT, hk]), below_alloc _ _⟩

/-- A token in a block of its own. -/
def boxT (t : Rt) : Obj := .cells #[.int .i64 t.kind, .string (bt t.text), .int .i64 t.n, .int .i64 t.line, .int .i64 t.col] 33
theorem strObj_cell2 (w : World) (o : Obj) (t : TypeId) (ws : List (List UInt8)) (j : Nat) (h : j < ws.length) : ((w.alloc o).alloc (.cells (strObj ws) t)).cell? ⟨w.heap.size + 1, j, none⟩ = some (.string (bt ws[j])) := by
  have := strObj_cell (w.alloc o) t ws j h
  simpa using this

/-- A token lies in block b. -/
def BoxAt (w : World) (b : Nat) (t : Rt) : Prop :=
  w.cell? ⟨b, 0, none⟩ = some (.int .i64 t.kind) ∧ w.cell? ⟨b, 1, none⟩ = some (.string (bt t.text)) ∧ w.cell? ⟨b, 2, none⟩ = some (.int .i64 t.n) ∧ w.cell? ⟨b, 3, none⟩ = some (.int .i64 t.line) ∧ w.cell? ⟨b, 4, none⟩ = some (.int .i64 t.col)
theorem boxAt_new (w : World) (t : Rt) : BoxAt (w.alloc (boxT t)) w.heap.size t := by
  refine ⟨?_, ?_, ?_, ?_, ?_⟩ <;> simp [boxT]
theorem BoxAt.same {w w' : World} {b : Nat} {t : Rt} (h : BoxAt w b t) (hb : w'.heap[b]? = w.heap[b]?) : BoxAt w' b t := by
  have k : ∀ o, w'.cell? ⟨b, o, none⟩ = w.cell? ⟨b, o, none⟩ := fun o => World.cell?_of_block (a := ⟨b, o, none⟩) hb
  unfold BoxAt
  rw [k, k, k, k, k]
  exact h
theorem BoxAt.below {w w' : World} {b B : Nat} {t : Rt} (h : BoxAt w b t) (hb : Below B w w') (hlt : b < B) : BoxAt w' b t := h.same (hb.block b hlt)

theorem blw2 {w a b : World} (h : Below w.heap.size w a) (k : Below a.heap.size a b) : Below w.heap.size w b := h.trans (k.mono h.size)

set_option maxHeartbeats 400000 in
set_option maxRecDepth 100000 in
theorem isOpener_any (t : Rt) (w : World) :
    Calls Try.prog 35 #[tokV t] w fun e w' => e = .returned (.bool (opnB t)) ∧ Below w.heap.size w w' := by
  go_enter Try.func35, Try.ntmps35
  unfold tokV
  go_wp2_with fail
  refine (isWord_any t opnW (w.heap.size + 1) 4 ((w.alloc (boxT t)).alloc (.cells (strObj opnW) 9)) (by decide) (by simp) (fun j h => strObj_cell2 w (boxT t) 9 opnW j h)).mono ?_
  rintro e w' ⟨rfl, hb⟩
  go_wp2
  go_ret
  exact ⟨rfl, blw2 (blw2 (below_alloc _ _) (below_alloc _ _)) hb⟩

set_option maxHeartbeats 400000 in
set_option maxRecDepth 100000 in
theorem isCloser_any (t : Rt) (w : World) :
    Calls Try.prog 61 #[tokV t] w fun e w' => e = .returned (.bool (cloB t)) ∧ Below w.heap.size w w' := by
  cases hk : signT t cloS with
  | true =>
    go_enter Try.func61, Try.ntmps61
    unfold tokV
    go_wp2_with fail
    refine (isSign_any t cloS (w.heap.size + 1) 4 ((w.alloc (boxT t)).alloc (.cells (strObj cloS) 9)) (by decide) (by simp) (fun j h => strObj_cell2 w (boxT t) 9 cloS j h)).mono ?_
    rintro e w' ⟨rfl, hb⟩
    rw [hk]
    have HB := Lib.hid hb
    clear hb
    go_wp2
    go_ret
    exact ⟨ret_bool (by simp [cloB, hk]), blw2 (blw2 (below_alloc _ _) (below_alloc _ _)) HB.out⟩
  | false =>
    go_enter Try.func61, Try.ntmps61
    unfold tokV
    go_wp2_with fail
    refine (isSign_any t cloS (w.heap.size + 1) 4 ((w.alloc (boxT t)).alloc (.cells (strObj cloS) 9)) (by decide) (by simp) (fun j h => strObj_cell2 w (boxT t) 9 cloS j h)).mono ?_
    rintro e w' ⟨rfl, hb⟩
    rw [hk]
    obtain ⟨x0, x1, x2, x3, x4⟩ := ((boxAt_new w t).below (below_alloc _ _) (by simp)).below hb (by simp; omega)
    have HB := Lib.hid hb
    clear hb
    go_wp2_with fail
    refine (isWord_any t cloW w'.heap.size 4 (w'.alloc (.cells (strObj cloW) 9)) (by decide) (by simp) (fun j h => strObj_cell w' 9 cloW j h)).mono ?_
    rintro e w2 ⟨rfl, hb2⟩
    have HB2 := Lib.hid hb2
    clear hb2
    go_wp2
    go_ret
    exact ⟨ret_bool (by simp [cloB, hk]), blw2 (blw2 (blw2 (blw2 (below_alloc _ _) (below_alloc _ _)) HB.out) (below_alloc _ _)) HB2.out⟩

set_option maxHeartbeats 400000 in
set_option maxRecDepth 100000 in
theorem isMarked_any (t : Rt) (w : World) :
    Calls Try.prog 63 #[tokV t] w fun e w' => e = .returned (.bool (mrkB t)) ∧ Below w.heap.size w w' := by
  cases hk : signT t mrkS with
  | true =>
    go_enter Try.func63, Try.ntmps63
    unfold tokV
    go_wp2_with fail
    refine (isSign_any t mrkS (w.heap.size + 1) 3 ((w.alloc (boxT t)).alloc (.cells (strObj mrkS) 9)) (by decide) (by simp) (fun j h => strObj_cell2 w (boxT t) 9 mrkS j h)).mono ?_
    rintro e w' ⟨rfl, hb⟩
    rw [hk]
    have HB := Lib.hid hb
    clear hb
    go_wp2
    go_ret
    exact ⟨ret_bool (by simp [mrkB, hk]), blw2 (blw2 (below_alloc _ _) (below_alloc _ _)) HB.out⟩
  | false =>
    go_enter Try.func63, Try.ntmps63
    unfold tokV
    go_wp2_with fail
    refine (isSign_any t mrkS (w.heap.size + 1) 3 ((w.alloc (boxT t)).alloc (.cells (strObj mrkS) 9)) (by decide) (by simp) (fun j h => strObj_cell2 w (boxT t) 9 mrkS j h)).mono ?_
    rintro e w' ⟨rfl, hb⟩
    rw [hk]
    obtain ⟨x0, x1, x2, x3, x4⟩ := ((boxAt_new w t).below (below_alloc _ _) (by simp)).below hb (by simp; omega)
    have HB := Lib.hid hb
    clear hb
    go_wp2_with fail
    refine (isWord_any t mrkW w'.heap.size 3 (w'.alloc (.cells (strObj mrkW) 9)) (by decide) (by simp) (fun j h => strObj_cell w' 9 mrkW j h)).mono ?_
    rintro e w2 ⟨rfl, hb2⟩
    have HB2 := Lib.hid hb2
    clear hb2
    go_wp2
    go_ret
    exact ⟨ret_bool (by simp [mrkB, hk]), blw2 (blw2 (blw2 (blw2 (below_alloc _ _) (below_alloc _ _)) HB.out) (below_alloc _ _)) HB2.out⟩
end Go.Proofs.Ytbjbmehkcfpahaa
