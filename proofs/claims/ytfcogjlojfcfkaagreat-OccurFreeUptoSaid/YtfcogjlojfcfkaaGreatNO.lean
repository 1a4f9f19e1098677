/- OccurFree returns true for an expression and a name, given what package occur and awake answer, and what copying does. A bound on how great the expression is. -/
import Derived.Test.YtfcogjlojfcfkaaGreatNM
import Derived.Test.YtfcogjlojfcfkaaGreatNN
import Derived.Test.YtfcogjlojfcfkaaGreatMN
import Derived.Deep.RegionHeld3
namespace Go.Proofs.YtfcogjlojfcfkaaGreat
open Go.RowKit Ex0
attribute [local go_sem] bt_size bt_list bt_toList

set_option maxHeartbeats 4000000 in
set_option maxRecDepth 100000 in
theorem free_law (HCp : ∀ (M rb ybk yof : Nat) (x : List UInt8) (y : By) (YB n : Nat), costE y.ns y.a y.b y.c ≤ 1048576 → (parts y.a y.b y.c).count ≤ 131072 → CopyC M rb ybk yof x y YB true n) (HU : UsesC) (HA : AwakeC)
    (k : Int) (s : List UInt8) (nn op : Int) (vn va vb vc : Value) (ns : List (List UInt8)) (a b c : Fx) (x : List UInt8) (w : World) (hok : OkE s ns a b c) (hx : x.length ≤ 1048576)
    (hv : ExV (Old w.heap.size) w vn va vb vc ns a b c) :
    Calls Tryz.prog 3 #[exV k s nn op vn va vb vc, .string (bt x)] w fun e w' => e = .returned (.bool true) ∧ Below w.heap.size w w' := by
  obtain ⟨an, cn, rfl⟩ := hv.ns.slice
  obtain ⟨aa, ca, rfl⟩ := hv.a.slice
  obtain ⟨ab, cb, rfl⟩ := hv.b.slice
  obtain ⟨ac, cc, rfl⟩ := hv.c.slice
  have HV := Lib.hid hv
  have HOk := Lib.hid hok
  have hcnt : (parts a b c).count ≤ 1048576 := by have := hok.cnt; omega
  have HBy := Lib.hid (show bytesE ns a b c ≤ 1000000000 from by have := hok.by_; rw [bytes_parts] at this; unfold bytesE; omega)
  clear hv hok
  have HK := Lib.hid (show ∀ W, Below (w.heap.size + 1) (w.alloc (exBox k s nn op (.slice an ns.length cn) (.slice aa a.len ca) (.slice ab b.len cb) (.slice ac c.len cc))) W → ExV (Old W.heap.size) W (.slice an ns.length cn) (.slice aa a.len ca) (.slice ab b.len cb) (.slice ac c.len cc) ns a b c ∧ w.heap.size + 1 ≤ W.heap.size from
    fun W h => ⟨HV.out.keep (keep_up (below_old h) (Nat.le_refl _)), by have := h.size; simp at this; omega⟩)
  obtain ⟨⟨m, q⟩, hU⟩ : ∃ U, usesE x k s ns a b c = U := ⟨_, rfl⟩
  have HUe := Lib.hid hU
  have HM := Lib.hid (show (usesE x k s ns a b c).1 = m by rw [hU])
  clear hU
  unfold exV
  go_enter Tryz.func3, Tryz.ntmps3
  go_wp2_with fail
  refine (few_cnt k s nn op _ _ _ _ ns a b c _ hcnt (HV.out.keep (keep_up (below_alloc' _ _) (Nat.le_refl _)))).mono ?_
  rintro e w2 ⟨v2, rfl, hr2, hb2⟩
  have HB2 := Lib.hid (show Below (w.heap.size + 1) (w.alloc (exBox k s nn op (.slice an ns.length cn) (.slice aa a.len ca) (.slice ab b.len cb) (.slice ac c.len cc))) w2 from hb2.mono (by simp))
  clear hb2
  cases v2 with
  | false =>
    clear hr2
    go_wp2_with fail
    refine (HA _).mono ?_
    rintro e w9 ⟨rfl, hb9⟩
    have HB9 := Lib.hid (blwS (below_old HB2.out) hb9 (below_old HB2.out).size)
    clear hb9
    go_wp2_with fail
    go_ret
    exact ⟨rfl, HB9.out⟩
  | true =>
    have HR := Lib.hid (hr2 rfl)
    clear hr2
    obtain ⟨b0, b1, b2, b3, b4, b5, b6, b7⟩ := exBox_cell (Nat.lt_succ_self _) HB2.out
    go_wp2_with fail
    go_at_call 5
    refine (bare_any _ k s nn op _ _ _ _ ns a b c w2 (Nat.lt_succ_self _) hcnt (HK.out _ HB2.out).1).mono ?_
    rintro e w3 ⟨⟨v3, rfl⟩, hb3⟩
    have HB3 := Lib.hid (blwS HB2.out hb3 (HK.out _ HB2.out).2)
    clear hb3 b0 b1 b2 b3 b4 b5 b6 b7
    cases v3 with
    | false =>
      go_wp2_with fail
      refine (HA _).mono ?_
      rintro e w9 ⟨rfl, hb9⟩
      have HB9 := Lib.hid (blwS (below_old HB3.out) hb9 (below_old HB3.out).size)
      clear hb9
      go_wp2_with fail
      go_ret
      exact ⟨rfl, HB9.out⟩
    | true =>
      obtain ⟨b0, b1, b2, b3, b4, b5, b6, b7⟩ := exBox_cell (Nat.lt_succ_self _) HB3.out
      go_wp2_with fail
      go_at_call 7
      have hcon := HU k s nn op _ _ _ _ ns a b c x w3 ⟨by have := HOk.out.cnt; omega, HOk.out.ce⟩ hx HR.out.1 (HK.out _ HB3.out).1
      rw [HUe.out] at hcon
      refine hcon.mono ?_
      clear hcon b0 b1 b2 b3 b4 b5 b6 b7
      rintro e w4 ⟨rfl, hb4⟩
      have HB4 := Lib.hid (blwS HB3.out hb4 (HK.out _ HB3.out).2)
      clear hb4
      obtain ⟨b0, b1, b2, b3, b4, b5, b6, b7⟩ := exBox_cell (Nat.lt_succ_self _) HB4.out
      go_wp2_with fail
      go_at_call 8
      refine (free_any k s nn op _ _ _ _ ns a b c w4 (HK.out _ HB4.out).1 HOk.out.nm HOk.out.ce HOk.out.cnt (by have := HOk.out.by_; omega)).mono ?_
      rintro e w5 ⟨v5, rfl, ss, hns, hmem, _, hb5⟩
      have HB5 := Lib.hid (blwS HB4.out hb5 (HK.out _ HB4.out).2)
      obtain ⟨a5, c5, rfl⟩ := hns.slice
      have HNs := Lib.hid (show NsV (Old w5.heap.size) w5 (.slice a5 ss.length c5) ss from hns.keep (keep_le w5 fun b hb => hb.2))
      have HMem := Lib.hid hmem
      clear hns hmem hb5 b0 b1 b2 b3 b4 b5 b6 b7
      go_wp2_with fail
      go_loopw [8, 9] (fun u8 u9 wr => ∃ j : Nat, j ≤ ss.length ∧ u9 = .int .i64 j ∧ u8 = .bool (decide (x ∈ ss.take j)) ∧ Below w5.heap.size w5 wr) (fun _ u _ => ss.length - (intOf u).toNat)
      case atStart => exact ⟨0, Nat.zero_le _, rfl, by simp, Below.refl _ _⟩
      case round =>
        obtain ⟨j, hj, rfl, rfl, hbr⟩ := hrel
        have HBr := Lib.hid hbr
        have hsr := hbr.size
        clear hbr
        by_cases hlt : j < ss.length
        · rcases HNs.out with ⟨h, _⟩ | ⟨_, b', o, cp, he, hb', hlc, hcm, hat⟩
          · subst h; simp at hlt
          simp only [Value.slice.injEq, true_and] at he
          obtain ⟨rfl, rfl⟩ := he
          have h0 : wr.cell? ⟨b', o + j, none⟩ = some (.string (bt ss[j])) := (HBr.out.cell (p := ⟨b', o + j, none⟩) hb').trans (hat j hlt)
          unfold maxLen at hcm
          have htk : ss.take (j + 1) = ss.take j ++ [ss[j]] := by rw [List.take_add_one, List.getElem?_eq_getElem hlt]; rfl
          obtain ⟨y, hy⟩ : ∃ y, ss[j] = y := ⟨_, rfl⟩
          rw [hy] at h0 htk
          have HTk := Lib.hid htk
          clear hat htk hy
          cases hd : decide (x ∈ ss.take j) with
          | true =>
            have HD := Lib.hid (of_decide_eq_true hd)
            clear hd
            go_wp2_with fail
            go_roundw
            case rel => exact ⟨j + 1, hlt, by go_num, by rw [HTk.out, decide_eq_true (by simp [HD.out])], HBr.out⟩
            case measure => simp [intOf]; omega
          | false =>
            have HD := Lib.hid (of_decide_eq_false hd)
            clear hd
            cases hyx : (y == x) with
            | true =>
              have HY := Lib.hid (show y = x by simpa using hyx)
              go_wp2_with fail
              go_roundw
              case rel => exact ⟨j + 1, hlt, by go_num, by rw [HTk.out, decide_eq_true (by simp [HY.out])], HBr.out⟩
              case measure => simp [intOf]; omega
            | false =>
              have HY := Lib.hid (show ¬ y = x by simpa using hyx)
              go_wp2_with fail
              go_roundw
              case rel => exact ⟨j + 1, hlt, by go_num, by rw [HTk.out, decide_eq_false (by simp only [List.mem_append, List.mem_singleton, not_or]; exact ⟨HD.out, fun h => HY.out h.symm⟩)], HBr.out⟩
              case measure => simp [intOf]; omega
        · obtain rfl : j = ss.length := by omega
          have hdd : decide (x ∈ ss.take ss.length) = decide (0 < m) := by
            have h1 := (rep_one x byLit 0 (byLit_ok x) HR.out.1 rfl).2.2.1
            rw [HM.out] at h1
            rw [List.take_length]
            exact decide_eq_decide.2 (by rw [HMem.out, h1, decide_eq_true_iff])
          have HBw := Lib.hid (blwS HB5.out HBr.out (HK.out _ HB5.out).2)
          obtain ⟨b0, b1, b2, b3, b4, b5, b6, b7⟩ := exBox_cell (Nat.lt_succ_self _) HBw.out
          obtain ⟨z, hz⟩ : ∃ z, repE x byLit true k s nn op ns a b c = z := ⟨_, rfl⟩
          obtain ⟨hz1, hz2, _, hz4⟩ := rep_one x byLit 0 (byLit_ok x) HR.out.1 hz.symm
          have hzc := repE_cost x byLit byLit_le.1 hz.symm
          have HZ := Lib.hid hz
          have HZ1 := Lib.hid (And.intro hz1 (And.intro hz4 (show (parts z.a z.b z.c).count ≤ 131071 ∧ costE z.ns z.a z.b z.c ≤ 1048576 from ⟨by have := HOk.out.cnt; omega, Nat.le_trans hzc HOk.out.ce⟩)))
          have HRy := Lib.hid (show ownBytes ns b c + bytesF (parts a b c) + (ownBytes byLit.ns byLit.b byLit.c + bytesF (parts byLit.a byLit.b byLit.c)) * (1 + (parts a b c).count) ≤ 2147483647 from by
            have h1 : ownBytes byLit.ns byLit.b byLit.c + bytesF (parts byLit.a byLit.b byLit.c) ≤ 408 := by have := byLit_le.2.1; rw [bytes_parts]; exact this
            have h2 : (ownBytes byLit.ns byLit.b byLit.c + bytesF (parts byLit.a byLit.b byLit.c)) * (1 + (parts a b c).count) ≤ 408 * (1 + (parts a b c).count) := Nat.mul_le_mul_right _ h1
            have h3 := HOk.out.by_
            have h4 := HR.out.2
            omega)
          have hyE : ExV (Old wr.heap.size) wr (.slice none 0 0) (.slice none 0 0) (.slice none 0 0) (.slice none 0 0) byLit.ns byLit.a byLit.b byLit.c := ⟨.inl ⟨rfl, _, _, rfl⟩, .inl ⟨rfl, _, _, rfl⟩, .inl ⟨rfl, _, _, rfl⟩, .inl ⟨rfl, _, _, rfl⟩⟩
          have HyE := Lib.hid hyE
          clear hz hz1 hz2 hz4 hzc hyE hj hlt
          rw [hdd]
          clear hdd
          go_wp2_with fail
          go_at_call 9
          have hcon := replace_call HCp x k s nn op _ _ _ _ ns a b c byLit _ _ _ _ wr (HK.out _ HBw.out).1 HyE.out HOk.out.cnt HOk.out.ce (by decide) (by decide) HRy.out
          rw [HZ.out] at hcon
          refine hcon.mono ?_
          clear hcon b0 b1 b2 b3 b4 b5 b6 b7
          rintro e w7 ⟨vn7, va7, vb7, vc7, rfl, hzx, hb7⟩
          have HB7 := Lib.hid (blwS HBw.out hb7 (HK.out _ HBw.out).2)
          have HZx := Lib.hid hzx
          clear hb7 hzx
          go_wp2_with fail
          go_at_call 7
          have hcon := HU z.k z.s z.n z.op _ _ _ _ z.ns z.a z.b z.c x w7 HZ1.out.2.2 hx HZ1.out.2.1 HZx.out
          obtain ⟨⟨m8, q8⟩, hU8⟩ : ∃ U, usesE x z.k z.s z.ns z.a z.b z.c = U := ⟨_, rfl⟩
          have h80 := HZ1.out.1
          rw [hU8] at hcon h80
          simp only at h80
          subst h80
          refine hcon.mono ?_
          clear hcon hU8
          rintro e w8 ⟨rfl, hb8⟩
          have HB8 := Lib.hid (blwS HB7.out hb8 (HK.out _ HB7.out).2)
          clear hb8
          by_cases hm0 : 0 < m
          · have hd : decide (0 < m) = true := decide_eq_true hm0
            rw [hd]
            clear hd
            go_upto_region 11 with fail
            refine wp_code (c' := lwR11) (by kernel_rfl) ?_
            refine Code.wp_mono NoPanic.imp ?_
            refine free_end_on HCp HA k s nn op an cn aa ca ab cb ac cc ns a b c x w w8 m q HV.out HB8.out HR.out.2 HOk.out.ce HBy.out HR.out.1 HM.out hm0 (fun _ _ _ _ _ h => h) _ _ _ _ _ _ _ _ _ _ _ _ _ _ _ _ _ _ _ _ _ _ _ _ _ _ _ _ _ _ _ _ _ _ _ _ _ _ _ _ _ _ _ _ _ _ _ _ _ _ _ _ _ _ _ _ _ _ _ _ _ _ _ _ _ _ _ _ _ _ _ _ _ _ _ _ _ _ _ _ _ _ _ _ _ _ ?_
            intro x53 x54 x55 x56 x57 x58 x59 x60 x61 x62 x63 x64 x65 x66 x67 x68 x69 x70 x71 x72 x73 x74 x75 x76 x77 x78 x79 x80 x81 x82 x83 x84 x85 x86 x87 x88 x89 x90 x91 wE hE
            have HE := Lib.hid (below_old hE)
            clear hE
            refine NoPanic.normal ?_
            go_wp2_with fail
            go_ret
            exact ⟨rfl, HE.out⟩
          · have hm1 : m = 0 := by omega
            have hd : decide (0 < m) = false := decide_eq_false hm0
            obtain rfl : q = false := by
              cases hq : q with
              | false => rfl
              | true =>
                have h1 := usesE_pos x k s ns a b c (by rw [HUe.out, hq])
                rw [HM.out] at h1
                exact absurd h1 hm0
            rw [hd]
            clear hd hm0
            have hm0 := Lib.hid hm1
            clear hm1
            go_upto_region 11 with fail
            refine wp_code (c' := lwR11) (by kernel_rfl) ?_
            refine Code.wp_mono NoPanic.imp ?_
            refine free_end_off HCp HA k s nn op an cn aa ca ab cb ac cc ns a b c x w w8 m false HV.out HB8.out HR.out.2 HOk.out.ce HBy.out HR.out.1 HM.out hm0.out (fun _ _ _ _ _ h => h) _ _ _ _ _ _ _ _ _ _ _ _ _ _ _ _ _ _ _ _ _ _ _ _ _ _ _ _ _ _ _ _ _ _ _ _ _ _ _ _ _ _ _ _ _ _ _ _ _ _ _ _ _ _ _ _ _ _ _ _ _ _ _ _ _ _ _ _ _ _ _ _ _ _ _ _ _ _ _ _ _ _ _ _ _ _ ?_
            intro x53 x54 x55 x56 x57 x58 x59 x60 x61 x62 x63 x64 x65 x66 x67 x68 x69 x70 x71 x72 x73 x74 x75 x76 x77 x78 x79 x80 x81 x82 x83 x84 x85 x86 x87 x88 x89 x90 x91 wE hE
            have HE := Lib.hid (below_old hE)
            clear hE
            refine NoPanic.normal ?_
            go_wp2_with fail
            go_ret
            exact ⟨rfl, HE.out⟩
end Go.Proofs.YtfcogjlojfcfkaaGreat
