/- Contracts of the reference's reader: on, bad, row, remark, over a reader that lies whole in a block of its own. The text has at most 16384 bytes. -/
import Derived.Test.YtbjbmehkcfpahaaRef1
import Derived.Test.YtbjbmehkcfpahaaAwake
import Derived.Test.YtbjbmehkcfpahaaLex
import Derived.IntWalk
import Derived.Deep.QuietTactic
import Derived.BigQuiet
namespace Go.Proofs.Ytbjbmehkcfpahaa
open Go.RowKit Lx
attribute [local go_sem] bt_size bt_get bt_list bt_toList bt_drop bt_take

/-- Block g is a reader: its text, and a place in it. -/
def RdAt (w : World) (g : Nat) (l : List UInt8) (o : Nat) (p : Nat × Nat) : Prop :=
  w.heap[g]? = some (.cells #[.string (bt l), .int .i64 (o : Int), .int .i64 (p.1 : Int), .int .i64 (p.2 : Int)] 44 (0, 0))

theorem rd_cells {w : World} {g : Nat} {l : List UInt8} {o : Nat} {p : Nat × Nat} (h : RdAt w g l o p) :
    w.cell? ⟨g, 0, none⟩ = some (.string (bt l)) ∧ w.cell? ⟨g, 1, none⟩ = some (.int .i64 (o : Int)) ∧ w.cell? ⟨g, 2, none⟩ = some (.int .i64 (p.1 : Int)) ∧ w.cell? ⟨g, 3, none⟩ = some (.int .i64 (p.2 : Int)) := by
  unfold RdAt at h
  simp [World.cell?, h]
theorem rd_frozen {w : World} {g : Nat} {l : List UInt8} {o : Nat} {p : Nat × Nat} (h : RdAt w g l o p) (i : Nat) : w.frozen? ⟨g, i, none⟩ = false := by
  unfold RdAt at h
  simp [World.frozen?, h]
theorem rd_lt {w : World} {g : Nat} {l : List UInt8} {o : Nat} {p : Nat × Nat} (h : RdAt w g l o p) : g < w.heap.size := (Array.getElem?_eq_some_iff.1 h).1
theorem rd_below {w w' : World} {g B : Nat} {l : List UInt8} {o : Nat} {p : Nat × Nat} (h : RdAt w g l o p) (hb : Below B w w') (hg : g < B) : RdAt w' g l o p := (hb.block g hg).trans h

theorem quietL {P : Program} {f : FuncId} {args : Array Value} {w : World} {n : Nat} {v : Value}
    (h : Calls P f args (w.drewN n) fun e w' => e = .returned v ∧ w.drewN n = w') : Calls P f args (w.drewN n) fun e w'' => e = .returned v ∧ ∃ m, w'' = w.drewN m :=
  h.mono fun _ _ ⟨he, hm⟩ => ⟨he, n, hm.symm⟩

set_option maxHeartbeats 800000 in
set_option maxRecDepth 100000 in
theorem refBad_any (w : World) (g : Nat) (l : List UInt8) (o : Nat) (p : Nat × Nat) (num : Int) (hsrc : RdAt w g l o p) :
    Calls Try.prog 21 #[.pointer (some ⟨g, 0, none⟩), .int .i64 num] w fun e w' => e = .returned (.tuple #[.slice none 0 0, diagV p.1 p.2 num]) ∧ Below w.heap.size w w' := by
  obtain ⟨c0, c1, c2, c3⟩ := rd_cells hsrc
  have hlt := rd_lt hsrc
  clear c0 c1 hsrc
  go_enter Try.func21, Try.ntmps21
  go_wp2
  go_region
  all_goals (try go_wp2)
  all_goals exact bodyPost_ret (v := .tuple #[.slice none 0 0, diagV p.1 p.2 num]) (by simp [results, go_sem, diagV]) rfl ⟨rfl, (below_alloc _ _).drew⟩

/-- Nothing but draws. -/
def Drawn (w wr : World) : Prop := ∃ m, wr = w.drewN m
theorem Drawn.refl (w : World) : Drawn w w := ⟨0, rfl⟩
theorem Drawn.more {w wr : World} (h : Drawn w wr) (n : Nat) : Drawn w (wr.drewN n) := by
  obtain ⟨m, rfl⟩ := h
  exact ⟨m + n, World.drewN_drewN _ _ _⟩

theorem tw_drop {p : UInt8 → Bool} {l : List UInt8} {o j : Nat} (h : o + j < l.length) (ha : ((l.drop o).take j).all p = true) (hp : p l[o + j] = false) : ((l.drop o).takeWhile p).length = j := by
  have hj : j < (l.drop o).length := by simp; omega
  rw [takeWhile_take (l.drop o) j ha hj (by rw [List.getElem_drop]; exact hp)]
  simp
  omega
theorem tw_drop_end {p : UInt8 → Bool} {l : List UInt8} {o j : Nat} (h : o + j = l.length) (ha : ((l.drop o).take j).all p = true) : ((l.drop o).takeWhile p).length = j := by
  have : (l.drop o).take j = l.drop o := List.take_of_length_le (by simp; omega)
  rw [this] at ha
  rw [takeWhile_all _ ha]
  simp
  omega
theorem all_drop {p : UInt8 → Bool} {l : List UInt8} {o j : Nat} (h : o + j < l.length) (ha : ((l.drop o).take j).all p = true) (hp : p l[o + j] = true) : ((l.drop o).take (j + 1)).all p = true :=
  all_snoc (l.drop o) j (by simp; omega) ha (by rw [List.getElem_drop]; exact hp)

def RowRel (w : World) (g : Nat) (l : List UInt8) (o : Nat) (p : Nat × Nat) (k : Nat) (i : Value) (wr : World) : Prop :=
  ∃ j : Nat, o + j ≤ l.length ∧ i = .int .i64 j ∧ ((l.drop o).take j).all (goesB k) = true ∧ RdAt wr g l o p ∧ Drawn w wr

def RowPost (w : World) (n : Nat) (e : Ending) (w' : World) : Prop := e = .returned (.int .i64 (n : Int)) ∧ Drawn w w'

set_option maxHeartbeats 800000 in
set_option maxRecDepth 100000 in
theorem refRow_any (w : World) (g : Nat) (l : List UInt8) (o : Nat) (p : Nat × Nat) (k : Nat) (hk : k ≤ 3) (hsrc : RdAt w g l o p) (ho : o ≤ l.length) (hl : l.length ≤ 16384) :
    Calls Try.prog 23 #[.pointer (some ⟨g, 0, none⟩), .int .i64 (k : Int)] w fun e w' => RowPost w ((l.drop o).takeWhile (goesB k)).length e w' := by
  have HS := Lib.hid hsrc
  clear hsrc
  go_enter Try.func23, Try.ntmps23
  go_wp2
  go_loopw [5] (fun i wr => RowRel w g l o p k i wr) (fun i _ => l.length - (intOf i).toNat)
  case atStart => exact ⟨0, by omega, rfl, rfl, HS.out, Drawn.refl w⟩
  case round =>
    obtain ⟨j, hj, rfl, hall, hsr, hdr⟩ := hrel
    obtain ⟨c0, c1, c2, c3⟩ := rd_cells hsr
    have H := Lib.hid hall
    have HSr := Lib.hid hsr
    have HDr := Lib.hid hdr
    clear hall hsr hdr c2 c3
    by_cases hlt : o + j < l.length
    · cases hp : goesB k l[o + j] with
      | true =>
        have HPP := Lib.hid hp
        go_wp2
        have s1 : IntKind.i64.wrap ((o : Int) + (j : Int)) = (o : Int) + (j : Int) := IntWalk.i64_in _ (by omega)
        have s2 : (0 : Int) ≤ (o : Int) + (j : Int) := by omega
        have s3 : ((o : Int) + (j : Int)).toNat = o + j := by omega
        have s4 : (o : Int) + (j : Int) < (l.length : Int) := by omega
        go_quiet ((go_at_call 54; exact quietL (refGoes_any k hk _ _)))
        generalize l[o + j] = bb
        clear s1 s3 hp
        go_wp2
        go_roundw
        case rel => exact ⟨j + 1, by omega, by go_num, all_drop hlt H.out HPP.out, HSr.out, HDr.out.more _⟩
        case measure => simp [intOf]; omega
      | false =>
        have HPP := Lib.hid hp
        go_wp2
        have s1 : IntKind.i64.wrap ((o : Int) + (j : Int)) = (o : Int) + (j : Int) := IntWalk.i64_in _ (by omega)
        have s2 : (0 : Int) ≤ (o : Int) + (j : Int) := by omega
        have s3 : ((o : Int) + (j : Int)).toNat = o + j := by omega
        have s4 : (o : Int) + (j : Int) < (l.length : Int) := by omega
        go_quiet ((go_at_call 54; exact quietL (refGoes_any k hk _ _)))
        generalize l[o + j] = bb
        clear s1 s3 hp
        go_wp2
        go_ret
        refine ⟨?_, HDr.out.more _⟩
        rw [tw_drop hlt H.out HPP.out]
        rfl
    · go_wp2
      have s1 : IntKind.i64.wrap ((o : Int) + (j : Int)) = (o : Int) + (j : Int) := IntWalk.i64_in _ (by omega)
      have s4 : decide ((o : Int) + (j : Int) < (l.length : Int)) = false := by simp; omega
      go_quiet (fail)
      clear s1 s4
      go_wp2
      go_ret
      refine ⟨?_, HDr.out.more _⟩
      rw [tw_drop_end (by omega) H.out]
      rfl

theorem rd_pl {wr : World} {g : Nat} {l : List UInt8} {a : Nat} {q : Nat × Nat} (h : RdAt wr g l a q) (d : Nat) :
    RdAt (((wr.drewN d).setCell ⟨g, 1, none⟩ (.int .i64 ((a : Int) + 1))).setCell ⟨g, 3, none⟩ (.int .i64 ((q.2 : Int) + 1))) g l (a + 1) (q.1, q.2 + 1) := by
  have h' : (wr.drewN d).heap[g]? = some (.cells #[.string (bt l), .int .i64 (a : Int), .int .i64 (q.1 : Int), .int .i64 (q.2 : Int)] 44 (0, 0)) := h
  unfold RdAt
  simp only [World.setCell, Array.getElem?_modify, h']
  simp

theorem rd_nl {wr : World} {g : Nat} {l : List UInt8} {a : Nat} {q : Nat × Nat} (h : RdAt wr g l a q) (d : Nat) :
    RdAt (((((wr.drewN d).setCell ⟨g, 2, none⟩ (.int .i64 ((q.1 : Int) + 1))).setCell ⟨g, 3, none⟩ (.int .i64 0)).setCell ⟨g, 1, none⟩ (.int .i64 ((a : Int) + 1))).setCell ⟨g, 3, none⟩ (.int .i64 1)) g l (a + 1) (q.1 + 1, 1) := by
  have h' : (wr.drewN d).heap[g]? = some (.cells #[.string (bt l), .int .i64 (a : Int), .int .i64 (q.1 : Int), .int .i64 (q.2 : Int)] 44 (0, 0)) := h
  unfold RdAt
  simp only [World.setCell, Array.getElem?_modify, h']
  simp

theorem grown_drewN {a w : World} {row : Option Nat} (h : a.grownBy w row) (n : Nat) : a.grownBy (w.drewN n) row := ⟨h.os, h.tape, h.output, h.size, h.block⟩

set_option maxHeartbeats 800000 in
set_option maxRecDepth 100000 in
theorem refOn_any (w : World) (g : Nat) (l : List UInt8) (o : Nat) (p : Nat × Nat) (n : Nat) (hsrc : RdAt w g l o p) (hn : o + n ≤ l.length) (hl : l.length ≤ 16384) (hp1 : p.1 ≤ 20000) (hp2 : p.2 ≤ 20000) (hp3 : 1 ≤ p.2) :
    Calls Try.prog 19 #[.pointer (some ⟨g, 0, none⟩), .int .i64 (n : Int)] w fun e w' => e = .returned (.tuple #[]) ∧ RdAt w' g l (o + n) (advL p ((l.drop o).take n)) ∧ w.grownBy w' (some g) := by
  have HS := Lib.hid hsrc
  clear hsrc
  go_enter Try.func19, Try.ntmps19
  go_wp2
  go_loopw [4] (fun i wr => ∃ (k : Nat) (q : Nat × Nat), k ≤ n ∧ i = .int .i64 k ∧ q = advL p ((l.drop o).take k) ∧ RdAt wr g l (o + k) q ∧ w.grownBy wr (some g)) (fun i _ => n - (intOf i).toNat)
  case atStart => exact ⟨0, p, Nat.zero_le _, rfl, rfl, HS.out, ⟨rfl, rfl, rfl, Nat.le_refl _, fun _ _ _ => rfl⟩⟩
  case round =>
    obtain ⟨k, q, hk, rfl, hq, hsr, hgr⟩ := hrel
    have hb := adv_bd ((l.drop o).take k) p hp3
    have hkl : ((l.drop o).take k).length ≤ k := List.length_take_le _ _
    rw [← hq] at hb
    obtain ⟨b1, b2⟩ := hb
    have HQ := Lib.hid hq
    have HGr := Lib.hid hgr
    clear hq hgr
    by_cases hlt : k < n
    · obtain ⟨a, ha⟩ : ∃ a, a = o + k := ⟨_, rfl⟩
      rw [← ha] at hsr
      have hok : a < l.length := by omega
      have hst : advL p ((l.drop o).take (k + 1)) = if l[a] = 10 then (q.1 + 1, 1) else (q.1, q.2 + 1) := by
        rw [List.take_succ_eq_append_getElem (by simp; omega), advL_append, ← HQ.out]
        simp only [List.getElem_drop, advL, ← ha]
      have HA := Lib.hid ha
      clear ha
      obtain ⟨c0, c1, c2, c3⟩ := rd_cells hsr
      have f1 := rd_frozen hsr 1
      have f2 := rd_frozen hsr 2
      have f3 := rd_frozen hsr 3
      have HSr := Lib.hid hsr
      clear hsr
      have i1 : (a : Int) < (l.length : Int) := by omega
      have i2 : (0 : Int) ≤ (a : Int) := by omega
      by_cases hc : l[a] = 10
      · rw [if_pos hc] at hst
        have HST := Lib.hid hst
        have gc : ((l[a].toNat : Int) == 10) = true := by rw [hc]; rfl
        clear hc hst
        go_wp2
        go_quiet (fail)
        go_wp2
        go_roundw
        case rel => exact ⟨k + 1, (q.1 + 1, 1), by omega, by go_num, HST.out.symm, by rw [← Nat.add_assoc, ← HA.out]; exact rd_nl HSr.out _, only_set (only_set (only_set (only_set (grown_drewN HGr.out _) _ _) _ _) _ _) _ _⟩
        case measure => simp [intOf]; omega
      · rw [if_neg hc] at hst
        have HST := Lib.hid hst
        have gc : ((l[a].toNat : Int) == 10) = false := byte_ne hc
        clear hc hst
        go_wp2
        go_quiet (fail)
        go_wp2
        go_roundw
        case rel => exact ⟨k + 1, (q.1, q.2 + 1), by omega, by go_num, HST.out.symm, by rw [← Nat.add_assoc, ← HA.out]; exact rd_pl HSr.out _, only_set (only_set (grown_drewN HGr.out _) _ _) _ _⟩
        case measure => simp [intOf]; omega
    · obtain rfl : k = n := by omega
      go_wp2
      go_end0
      refine ⟨rfl, ?_, HGr.out⟩
      rw [← HQ.out]
      exact hsr
end Go.Proofs.Ytbjbmehkcfpahaa
