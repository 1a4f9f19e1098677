/- The walk of the law LexPlaces where the text is read, and its whole contract: it answers true and leaves what was there. No condition but that the text is no longer than 2^47 bytes. -/
import Derived.Test.YtjnkjciglkfbaaaPlacesErr
import Derived.IntWalk
namespace Go.Proofs.Ytjnkjciglkfbaaa
open Go.RowKit Lx
attribute [local go_sem] bt_size bt_get bt_list bt_toList bt_drop bt_take bt_nl bt_app

/-- At the head of each round of LexPlaces' loop over the tokens. -/
def PlRel (w : World) (l : List UInt8) (g : Nat) (ts : List Tk) (m : Nat) (a b c i : Value) (wr : World) : Prop :=
  ∃ (q o : Nat) (P : Nat × Nat), q ≤ ts.length ∧ ts.length - q < m ∧ i = .int .i64 q ∧ a = .int .i64 o ∧ b = .int .i64 (P.1 : Int) ∧ c = .int .i64 (P.2 : Int) ∧ o ≤ l.length ∧ P = advL (1, 1) (l.take o) ∧ PlOk l o (ts.drop q) ∧ g < wr.heap.size ∧ TokAt wr g ts ∧ Below w.heap.size w wr

/-- At the head of each round of the loop over the bytes ahead of a token at o'. -/
def ByRel (l : List UInt8) (o' : Nat) (a b c : Value) : Prop :=
  ∃ (k : Nat) (P : Nat × Nat), k ≤ o' ∧ a = .int .i64 k ∧ b = .int .i64 (P.1 : Int) ∧ c = .int .i64 (P.2 : Int) ∧ P = advL (1, 1) (l.take k)

theorem pl_next {w wr : World} {l : List UInt8} {g : Nat} {ts : List Tk} {q o' d : Nat} {P : Nat × Nat} {o : Obj} (hq : q + 1 ≤ ts.length) (ho : o' ≤ l.length) (hP : P = advL (1, 1) (l.take o')) (hp : PlOk l o' (ts.drop (q + 1))) (hz : g < wr.heap.size) (ht : TokAt wr g ts) (hb : Below w.heap.size w wr) :
    PlRel w l g ts (ts.length - q) (.int .i64 (o' : Int)) (.int .i64 (P.1 : Int)) (.int .i64 (P.2 : Int)) (.int .i64 ((q : Int) + 1)) ((wr.alloc o).drewN d) := by
  have ha := hb.alloc hb.size o
  have t1 := ht.below (below_alloc wr o) hz
  exact ⟨q + 1, o', P, hq, by omega, by go_num, rfl, rfl, rfl, ho, hP, hp, by simp; omega, t1, ⟨ha.os, ha.tape, ha.output, ha.size, ha.block⟩⟩

theorem pl_next0 {w wr : World} {l : List UInt8} {g : Nat} {ts : List Tk} {q o' : Nat} {P : Nat × Nat} {o : Obj} (hq : q + 1 ≤ ts.length) (ho : o' ≤ l.length) (hP : P = advL (1, 1) (l.take o')) (hp : PlOk l o' (ts.drop (q + 1))) (hz : g < wr.heap.size) (ht : TokAt wr g ts) (hb : Below w.heap.size w wr) :
    PlRel w l g ts (ts.length - q) (.int .i64 (o' : Int)) (.int .i64 (P.1 : Int)) (.int .i64 (P.2 : Int)) (.int .i64 ((q : Int) + 1)) (wr.alloc o) := by
  have ha := hb.alloc hb.size o
  have t1 := ht.below (below_alloc wr o) hz
  exact ⟨q + 1, o', P, hq, by omega, by go_num, rfl, rfl, rfl, ho, hP, hp, by simp; omega, t1, ha⟩

set_option maxHeartbeats 4000000 in
set_option maxRecDepth 100000 in
theorem places_ok (t : List UInt8) (w : World) (h1 : t.length ≤ 16384) (fr : List Tk) (x : Tk) (hT : readL t = .ok (fr ++ [x])) (hx : x.kind = 9) (hpl : PlOk t 0 (fr ++ [x])) (hfl : fr.length ≤ 20000) :
    Calls Try.prog 4 #[.string (bt t)] w fun e w' => e = .returned (.bool true) ∧ Below w.heap.size w w' := by
  have HT := Lib.hid hT
  have HP := Lib.hid hpl
  clear hT hpl
  go_enter Try.func4, Try.ntmps4
  go_wp2_with fail
  refine (read_ok HT.out (by simp [maxLen]; omega)).mono ?_
  rintro e w1 ⟨v, rfl, ho1, hb1⟩
  obtain ⟨g, cap1, rfl, hg1, hl1, hc1, ht1⟩ := toks_form ho1 (by simp)
  have HB1 := Lib.hid hb1
  have HT1 := Lib.hid ht1
  have k9 := (ht1 fr.length x (by simp)).1
  rw [hx] at k9
  clear hb1 ho1 ht1 hx
  obtain ⟨ts, hts⟩ : ∃ ts, ts = fr ++ [x] := ⟨_, rfl⟩
  have hlen : ts.length = fr.length + 1 := by rw [hts]; simp
  rw [← hts] at HT1 HP
  rw [← hts, hlen]
  rw [← hts, hlen] at hc1
  have HLen := Lib.hid hlen
  clear hts hlen HT
  unfold diagV
  go_wp2
  go_loopg [5, 6, 7, 8] (ts.length + 1) (fun m a b c i wr => PlRel w t g ts m a b c i wr)
  case atStart =>
    have hz := HB1.out.size
    exact ⟨0, 0, (1, 1), Nat.zero_le _, by omega, rfl, rfl, rfl, rfl, Nat.zero_le _, rfl, HP.out, by simp; omega, HT1.out.below (below_alloc w1 _) hl1, HB1.out.alloc hz _⟩
  case round =>
    obtain ⟨q, o, P, hq, hmm, rfl, rfl, rfl, rfl, ho, hP, hpl, hgz, htk, hbe⟩ := hrel
    have HMM := Lib.hid hmm
    clear hmm
    rw [HLen.out] at hq
    have HBe := Lib.hid hbe
    have HTk := Lib.hid htk
    have HPl := Lib.hid hpl
    have HPP := Lib.hid hP
    clear HT1 HB1 HP k9 hbe hpl hP
    by_cases hlt : q < fr.length + 1
    · have hqt : q < ts.length := by rw [HLen.out]; exact hlt
      obtain ⟨a0, a1, a2, a3, a4⟩ := htk q ts[q] (by simp [hqt])
      have hd := List.drop_eq_getElem_cons hqt
      have hp2 := HPl.out
      rw [hd] at hp2
      obtain ⟨o', hoo, hol, hpos, htok, hkind, hrest⟩ := hp2
      have hlast : ts.drop (q + 1) = [] ↔ q = fr.length := by
        rw [List.drop_eq_nil_iff, HLen.out]
        omega
      rw [hlast] at hkind
      have HRest := Lib.hid hrest
      clear htk hd hrest hlast HPl
      generalize ts[q] = tk at *
      obtain ⟨P', hP'⟩ : ∃ P' : Nat × Nat, P' = advL (1, 1) (t.take o') := ⟨_, rfl⟩
      have e1 : tk.line = P'.1 := by rw [hP', ← hpos]
      have e2 : tk.col = P'.2 := by rw [hP', ← hpos]
      rw [e1] at a3
      rw [e2] at a4
      have hbP := adv_bd (t.take o') (1, 1) (by simp)
      rw [← hP'] at hbP
      have hto : (t.take o').length ≤ o' := List.length_take_le _ _
      simp only at hbP
      obtain ⟨bp1, bp2⟩ := hbP
      have HP' := Lib.hid hP'
      clear hpos hP' e1 e2
      have HTok := Lib.hid htok
      have HKind := Lib.hid hkind
      clear htok hkind
      go_wp2
      go_loop [5, 6, 7] (fun a b c => ByRel t o' a b c) (fun a _ _ => o' - (intOf a).toNat)
      case atStart => exact ⟨o, P, hoo, rfl, rfl, rfl, HPP.out⟩
      case round =>
        obtain ⟨k, R, hk, rfl, rfl, rfl, hR⟩ := hrel
        have hbR := adv_bd (t.take k) (1, 1) (by simp)
        rw [← hR] at hbR
        have htk' : (t.take k).length ≤ k := List.length_take_le _ _
        simp only at hbR
        obtain ⟨br1, br2⟩ := hbR
        by_cases hko : k < o'
        · have hlt2 := adv_lt t k o' hko hol
          rw [← hR, ← HP'.out] at hlt2
          have hkl : k < t.length := by omega
          have hsn := adv_snoc t k hkl (1, 1)
          rw [← hR] at hsn
          have HR := Lib.hid hR
          clear hR
          have key : ((R.1 : Int) < (P'.1 : Int)) ∨ (((R.1 : Int) == (P'.1 : Int)) = true ∧ ¬ (R.1 : Int) < (P'.1 : Int) ∧ (R.2 : Int) < (P'.2 : Int)) := by
            rcases hlt2 with h | ⟨h, h'⟩
            · exact .inl (by omega)
            · exact .inr ⟨by rw [h]; simp, by omega, by omega⟩
          clear hlt2
          rcases key with h | ⟨h, h', h''⟩
          all_goals
            by_cases hc : t[k] = 10
            · rw [if_pos hc] at hsn
              have gc : ((t[k].toNat : Int) == 10) = true := by rw [hc]; rfl
              have HS := Lib.hid hsn
              clear hsn hc
              go_wp2
              go_round
              case rel => exact ⟨k + 1, (R.1 + 1, 1), by omega, by go_num, by go_num, rfl, HS.out.symm⟩
              case measure => simp [intOf]; omega
            · rw [if_neg hc] at hsn
              have gc : ((t[k].toNat : Int) == 10) = false := byte_ne hc
              have HS := Lib.hid hsn
              clear hsn hc
              go_wp2
              go_round
              case rel => exact ⟨k + 1, (R.1, R.2 + 1), by omega, by go_num, rfl, by go_num, HS.out.symm⟩
              case measure => simp [intOf]; omega
        · obtain rfl : k = o' := by omega
          have hRP : R = P' := by rw [hR, HP'.out]
          subst hRP
          have HR := Lib.hid hR
          clear hR
          rcases HTok.out with ⟨h9, hk9⟩ | ⟨h6, hk6, hc6⟩ | ⟨n9, n6, hn0, hnl, hntx⟩
          · have g9 : (tk.kind == 9) = true := by simp [h9]
            have g6 : (tk.kind == 6) = false := by simp [h9]
            have hqf := HKind.out.1 h9
            have gq : ¬ (q : Int) < (fr.length : Int) := by omega
            have gk : ((k : Int) != (t.length : Int)) = false := by simp [hk9]
            have gk2 : ¬ k < t.length := by omega
            clear h9 hk9 hqf
            go_wp2
            go_roundg (ts.length - q)
            case rel => exact pl_next0 (by rw [HLen.out]; omega) hol HR.out HRest.out hgz HTk.out HBe.out
            case measure => exact HMM.out
          · have g9 : (tk.kind == 9) = false := by simp [h6]
            have g6 : (tk.kind == 6) = true := by simp [h6]
            have gc : ((t[k].toNat : Int) != 34) = false := by rw [hc6]; rfl
            have hqf : (q : Int) < (fr.length : Int) := by
              have := HKind.out.2
              have : ¬ q = fr.length := fun e => by have := HKind.out.2 e; omega
              omega
            clear h6 hc6
            go_wp2
            go_roundg (ts.length - q)
            case rel => exact pl_next0 (by rw [HLen.out]; omega) hol HR.out HRest.out hgz HTk.out HBe.out
            case measure => exact HMM.out
          · have g9 : (tk.kind == 9) = false := by simp [n9]
            have g6 : (tk.kind == 6) = false := by simp [n6]
            have hqf : (q : Int) < (fr.length : Int) := by
              have : ¬ q = fr.length := fun e => n9 (HKind.out.2 e)
              omega
            have gn : ((tk.text.length : Int) == 0) = false := beq_eq_false_iff_ne.2 (by omega)
            have gl : ¬ (t.length : Int) < (k : Int) + (tk.text.length : Int) := by omega
            have hsl : (bt t).extract k (k + tk.text.length) = bt tk.text := by
              rw [bt_extract, show k + tk.text.length - k = tk.text.length from by omega, hntx]
            have hkl : k < t.length := by omega
            clear n9 n6 hntx
            go_wp2
            have s1 : IntKind.i64.wrap ((k : Int) + (tk.text.length : Int)) = (k : Int) + (tk.text.length : Int) := IntWalk.i64_in _ (by omega)
            have s2 : (0 : Int) ≤ (k : Int) + (tk.text.length : Int) := by omega
            have s3 : ((k : Int) + (tk.text.length : Int)).toNat = k + tk.text.length := by omega
            have s4 : (k : Int) ≤ (k : Int) + (tk.text.length : Int) := by omega
            have s5 : (k : Int) + (tk.text.length : Int) ≤ (t.length : Int) := by omega
            have s6 : (0 : Int) ≤ (k : Int) := by omega
            go_quiet (fail)
            clear s1 s3
            go_wp2
            go_roundg (ts.length - q)
            case rel => exact pl_next (by rw [HLen.out]; omega) hol HR.out HRest.out hgz HTk.out HBe.out
            case measure => exact HMM.out
    · clear htk
      go_wp2_with fail
      refine (awake_any _).mono ?_
      rintro e w3 ⟨rfl, hb3⟩
      go_wp2
      go_ret
      exact ⟨rfl, HBe.out.trans (hb3.mono HBe.out.size)⟩

theorem places_any (t : List UInt8) (w : World) (h1 : t.length ≤ 140737488355328) :
    Calls Try.prog 4 #[.string (bt t)] w fun e w' => e = .returned (.bool true) ∧ Below w.heap.size w w' := by
  by_cases h : 16384 < t.length
  · exact places_err t w h1 ⟨1, 1, 10⟩ (by rw [readL, if_pos h]) (by simp) (by simp) (by simp) (by simp)
  have h' : t.length ≤ 16384 := by omega
  have rT : readL t = lx t (1, 1) := readL_lx h'
  cases hx : readL t with
  | error d =>
    rw [hx] at rT
    have he := lx_err _ _ _ _ (Nat.le_refl _) (by simp) (by simp) rT.symm
    exact places_err t w h1 d hx (by omega) (by omega) he.2.2.1 he.2.2.2
  | ok ts =>
    rw [hx] at rT
    obtain ⟨fr, e⟩ := lx_ne _ _ _ _ (Nat.le_refl _) rT.symm
    have hc := lx_count _ _ _ _ (Nat.le_refl _) rT.symm
    have hp := lx_places t t.length 0 ts (by simp) (Nat.zero_le _) rT.symm
    rw [e] at hp hc
    simp at hc
    exact places_ok t w h' fr _ (by rw [hx, e]) rfl hp (by omega)
end Go.Proofs.Ytjnkjciglkfbaaa
