/- The replacer's copy from the alternatives on. Bounds on how great they are. -/
import Derived.Test.YtfcogjlojfcfkaaGreatND
import Derived.Deep.RegionHeld3
import Derived.Test.YtfcogjlojfcfkaaGreatNC
section
namespace Go.Proofs.YtfcogjlojfcfkaaGreat
open Go.RowKit Ex0
attribute [local go_sem] bt_size bt_list bt_toList

/-- The code that begins with the region of a number. -/
def seqAt (n : Nat) : Code → Option Code
  | .seq a b => match a with
    | .region id _ _ => if id == n then some (.seq a b) else seqAt n b
    | _ => match seqAt n a with
      | some c => some c
      | none => seqAt n b
  | .loop c => seqAt n c
  | .block _ c => seqAt n c
  | .scope c => seqAt n c
  | .cond _ a b => match seqAt n a with
    | some c => some c
    | none => seqAt n b
  | _ => none
noncomputable def cpR21 : Code := ((Tryz.f20.body.bind (codeAt 21)).getD .skip)
noncomputable def cpRest : Code := match (Tryz.f20.body.bind (seqAt 21)) with
  | some (.seq _ b) => b
  | _ => .skip
noncomputable def cpFs : Array Field := (Tryz.prog.underlying 27).elim #[] fun | .struct fs => fs | _ => #[]
theorem under_cp : Tryz.prog.underlying 27 = some (.struct cpFs) := by kernel_rfl
theorem size_cp : (Tryz.prog.info? 27).map (·.size) = some 8 := by kernel_rfl
/-- What is written at a copy's end. -/
theorem cp_end {w : World} {g : Nat} {T : TypeId} {d0 d1 d2 d3 d4 d5 d6 d7 : Value} (v0 v1 v2 v3 v4 v5 v6 v7 : Value) (h : w.heap[g]? = some (.cells #[d0, d1, d2, d3, d4, d5, d6, d7] T (0, 0))) :
    ∃ wE, wE = ((((((((w.setCell ⟨g, 0, none⟩ v0).setCell ⟨g, 1, none⟩ v1).setCell ⟨g, 2, none⟩ v2).setCell ⟨g, 3, none⟩ v3).setCell ⟨g, 4, none⟩ v4).setCell ⟨g, 5, none⟩ v5).setCell ⟨g, 6, none⟩ v6).setCell ⟨g, 7, none⟩ v7) ∧ w.grownBy wE (some g) ∧ wE.heap[g]? = some (.cells #[v0, v1, v2, v3, v4, v5, v6, v7] T (0, 0)) := by
  refine ⟨_, rfl, ?_, ?_⟩
  · exact ((((((((mz_set w g 0 v0).trans (mz_set _ g 1 v1)).trans (mz_set _ g 2 v2)).trans (mz_set _ g 3 v3)).trans (mz_set _ g 4 v4)).trans (mz_set _ g 5 v5)).trans (mz_set _ g 6 v6)).trans (mz_set _ g 7 v7))
  · rw [(heap_set (heap_set (heap_set (heap_set (heap_set (heap_set (heap_set (heap_set h v0) v1) v2) v3) v4) v5) v6) v7)]
    simp only [List.setIfInBounds_toArray, List.set_cons_succ, List.set_cons_zero]
set_option maxHeartbeats 4000000 in
set_option maxRecDepth 100000 in
theorem copy_tail (M rb ybk yof : Nat) (x : List UInt8) (y : By) (YB n : Nat) (op : Bool) (hC : ∀ o, (o = true → op = true) → CopyC M rb ybk yof x y YB o n) (o2 : Bool) (hO : o2 = true → op = true)
    (bk of : Nat) (k : Int) (s : List UInt8) (nn op' : Int) (an : Option Addr) (cn : Nat) (aa : Option Addr) (ca : Nat) (ab : Option Addr) (cb : Nat) (ac : Option Addr) (cc : Nat) (ns : List (List UInt8)) (f1 d1 c : Fx)
    (W wr : World) (room rq : Int) (B7 : Nat) (a8 : Option Addr) (c8 : Nat) (ad1 : Option Addr) (cap1 : Nat) (ad2 : Option Addr) (cap2 : Nat)
    (hMW : M ≤ W.heap.size) (hrbW : rb < W.heap.size) (hlB : W.heap.size < B7) (hMB : M ≤ B7)
    (hP : CpW M rb ybk yof x y YB W wr rq W.heap.size B7 bk of k s nn op' (.slice an ns.length cn) (.slice aa f1.len ca) (.slice ab d1.len cb) (.slice ac c.len cc) ns f1 d1 c (.slice a8 ns.length c8) (.slice ad1 f1.len cap1) (.slice ad2 d1.len cap2) (.slice ac c.len cc))
    (hN : NsV (Amid M (B7 + 1) wr.heap.size) wr (.slice a8 ns.length c8) ns) (hA : FxV (Amid M (B7 + 1) wr.heap.size) wr 0 (.slice ad1 f1.len cap1) (repF x y false o2 f1)) (hB : FxV (Amid M (B7 + 1) wr.heap.size) wr 1 (.slice ad2 d1.len cap2) (repF x y false o2 d1))
    (hz : repE x y op k s nn op' ns f1 d1 c = ⟨k, s, nn, op', ns, repF x y false o2 f1, repF x y false o2 d1, repF x y true (o2 && !decide (s = x)) c⟩)
    (hn : (parts f1 d1 c).count < n + 1) (hce : costE ns f1 d1 c ≤ 1048576) (hcn : (parts f1 d1 c).count ≤ 131072) (hrm : (need YB op (parts f1 d1 c).count : Int) ≤ room) (hq1 : room - needF YB op f1 - needF YB op d1 ≤ rq) (hq2 : rq ≤ room)
    (u3 u4 u5 u8 u9 u10 u11 u12 u13 u14 u15 u16 u17 u18 u19 u20 u21 u22 u23 u24 u25 u26 u27 u28 u29 u30 u31 u32 u33 u34 u35 u36 u37 u38 u39 u40 u41 u42 u43 u44 u45 u46 u47 u48 u49 u50 u51 u52 u53 u54 u55 u56 u57 u58 u59 u60 u61 u62 u63 u64 u65 u66 u67 u68 u69 u70 u71 u72 u73 u74 u75 u76 u77 u78 u79 u80 u81 u82 u83 u84 u85 u86 u87 u88 u89 u90 u91 u92 u93 u94 u95 u96 u97 u98 u99 u100 u101 u102 u103 u104 u105 u106 u107 u108 u109 u110 u111 u112 u113 u114 u115 u116 u117 u118 u119 u120 u121 u122 u123 u124 u125 u126 u127 u128 u129 u130 u131 u132 u133 u134 u135 u136 u137 u138 u139 u140 u141 u142 u143 u144 u145 u146 u147 u148 u149 u150 u151 u152 u153 u154 u155 u156 u157 u158 u159 u160 u161 u162 u163 u164 u165 u166 u167 u168 u169 u170 u171 u172 u173 u174 u175 u176 u177 u178 u179 u180 u181 u182 u183 u184 u185 : Value) (K : Act → World → Prop)
    (hK : ∀ a' w', cpRest.wp Tryz.prog (bodyPost Tryz.prog Tryz.f20 (CopyPost M rb ybk yof x YB op (parts f1 d1 c).count (repE x y op k s nn op' ns f1 d1 c) W room)) a' w' → K a' w') :
    cpR21.wp Tryz.prog (Exit.then K (bodyPost Tryz.prog Tryz.f20 (CopyPost M rb ybk yof x YB op (parts f1 d1 c).count (repE x y op k s nn op' ns f1 d1 c) W room))) ⟨#[.pointer (some ⟨rb, 0, none⟩), .pointer (some ⟨bk, of, none⟩), .bool o2, u3, u4, u5, .pointer (some ⟨W.heap.size, 0, none⟩), .pointer (some ⟨B7, 0, none⟩), u8, u9, u10, u11, u12, u13, u14, u15, u16, u17, u18, u19, u20, u21, u22, u23, u24, u25, u26, u27, u28, u29, u30, u31, u32, u33, u34, u35, u36, u37, u38, u39, u40, u41, u42, u43, u44, u45, u46, u47, u48, u49, u50, u51, u52, u53, u54, u55, u56, u57, u58, u59, u60, u61, u62, u63, u64, u65, u66, u67, u68, u69, u70, u71, u72, u73, u74, u75, u76, u77, u78, u79, u80, u81, u82, u83, u84, u85, u86, u87, u88, u89, u90, u91, u92, u93, u94, u95, u96, u97, u98, u99, u100, u101, u102, u103, u104, u105, u106, u107, u108, u109, u110, u111, u112, u113, u114, u115, u116, u117, u118, u119, u120, u121, u122, u123, u124, u125, u126, u127, u128, u129, u130, u131, u132, u133, u134, u135, u136, u137, u138, u139, u140, u141, u142, u143, u144, u145, u146, u147, u148, u149, u150, u151, u152, u153, u154, u155, u156, u157, u158, u159, u160, u161, u162, u163, u164, u165, u166, u167, u168, u169, u170, u171, u172, u173, u174, u175, u176, u177, u178, u179, u180, u181, u182, u183, u184, u185], []⟩ wr := by
  rw [hz] at hK ⊢
  have HKK := Lib.hid hK
  clear hz hK
  have HC := Lib.hid hC
  have HO := Lib.hid hO
  have i7 := hP.ex.c7
  have k7 := cell_of hP.h7 7 _ rfl
  have f7 := frozen_of hP.h7 7
  have HQ2 := Lib.hid hP
  obtain ⟨hi3, hhi3⟩ : ∃ hi3, wr.heap.size = hi3 := ⟨_, rfl⟩
  rw [hhi3] at hN hA hB
  have HN3 := Lib.hid hN
  have HA3 := Lib.hid hA
  have HB3 := Lib.hid hB
  obtain ⟨csc, hrc, hlc, h1c, hjc⟩ := fxv_clone hP.ex.ex.c
  have HRc := Lib.hid (And.intro hrc (And.intro hlc (And.intro h1c hjc)))
  have hcl : c.len ≤ 1048576 := by
    have h1 := (parts f1 d1 c).len_le
    have h2 := parts_len f1 d1 c
    omega
  have hMwr3 : M ≤ wr.heap.size := hP.rp.hMW
  have hlB3 : B7 < wr.heap.size := hP.lt
  have hMR := hP.rp.hM
  clear hC hO hP hN hA hB hrc hlc h1c hjc
  conv => arg 2; whnf
  go_wp2_with fail
  refine (clone_alt ac c.len cc csc wr HRc.out.2.1 hcl HRc.out.2.2.2 HRc.out.2.2.1).mono ?_
  rintro e w30 ⟨v30, rfl, hown30, hb30⟩
  have t30 := grown_of_below hb30 (Nat.le_refl _)
  have hs30 := t30.size
  obtain ⟨ad3, cap3, rfl, hrow3⟩ := RowV.start (M := M) (by omega) hown30 (HRc.out.1.keep (show Keep (Old M) (Old M) wr w30 from fun g hg => ⟨hg, fun o => World.cell?_of_block (w := wr) (w' := w30) (a := ⟨g, o, none⟩) (t30.block g (by have : g < M := hg; omega) (by simp))⟩))
  have hP30 := HQ2.out.still t30 (fun q e => by cases e)
  have k30 := cell_of hP30.h7 7 _ rfl
  have f30 := frozen_of hP30.h7 7
  have HP30 := Lib.hid hP30
  have hkp := amid_wide t30 (M := M) (lo := B7 + 1) (lo' := B7 + 1) (hi := hi3) (hi' := hi3) (fun q e => by cases e) (by omega) (Nat.le_refl _) hMwr3 (Nat.le_refl _)
  have HN30 := Lib.hid (HN3.out.keep hkp)
  have HA30 := Lib.hid (HA3.out.keep hkp)
  have HB30 := Lib.hid (HB3.out.keep hkp)
  have HW30 := Lib.hid hrow3
  clear hown30 hb30 t30 hP30 hrow3 i7 k7 f7 hkp
  go_wp2_with fail
  refine HKK.out _ _ ?_
  conv => arg 2; whnf
  generalize hw31 : World.setCell w30 _ _ = w31
  have hP31 := HP30.out.turn7 (.slice ad3 c.len cap3)
  have t31 := mz_set w30 B7 7 (.slice ad3 c.len cap3)
  rw [hw31] at hP31 t31
  have hs31 := t31.size
  have i7 := hP31.ex.c7
  have HP31 := Lib.hid hP31
  have hkp := amid_wide t31 (M := M) (lo := B7 + 1) (lo' := B7 + 1) (hi := hi3) (hi' := hi3) (fun q e => by cases e; exact ⟨hMB, .inl (Nat.lt_succ_self _)⟩) (by omega) (Nat.le_refl _) (by omega) (Nat.le_refl _)
  have HN31 := Lib.hid (HN30.out.keep hkp)
  have HA31 := Lib.hid (HA30.out.keep hkp)
  have HB31 := Lib.hid (HB30.out.keep hkp)
  have HW31 := Lib.hid (HW30.out.grow t31 (fun q e => by cases e; exact ⟨hMB, hlB3⟩))
  rw [hhi3] at HW31
  clear hw31 hP31 t31 k30 f30 hkp
  have hlow3 : B7 < hi3 := by omega
  have hlo31 : hi3 ≤ w31.heap.size := by omega
  obtain ⟨o3, ho3⟩ : ∃ o3, (o2 && !decide (s = x)) = o3 := ⟨_, rfl⟩
  have HO3 := Lib.hid ho3
  have HOo := Lib.hid (show o3 = true → op = true from fun h => by
    rw [← ho3] at h
    simp only [Bool.and_eq_true] at h
    exact HO.out h.1)
  clear ho3 HN3 HA3 HB3 HRc HP30 HN30 HA30 HB30 HW30 HO
  go_wp2_with fail
  go_loopw [156] (fun i wr => ∃ (g1 g2 : Fx) (rs : Int), c = g1.app g2 ∧ i = .int .i64 g1.len ∧ CpW M rb ybk yof x y YB W wr rs W.heap.size B7 bk of k s nn op' (.slice an ns.length cn) (.slice aa f1.len ca) (.slice ab d1.len cb) (.slice ac c.len cc) ns f1 d1 c (.slice a8 ns.length c8) (.slice ad1 f1.len cap1) (.slice ad2 d1.len cap2) (.slice ad3 c.len cap3) ∧ NsV (Amid M (B7 + 1) hi3) wr (.slice a8 ns.length c8) ns ∧ FxV (Amid M (B7 + 1) hi3) wr 0 (.slice ad1 f1.len cap1) (repF x y false o2 f1) ∧ FxV (Amid M (B7 + 1) hi3) wr 1 (.slice ad2 d1.len cap2) (repF x y false o2 d1) ∧ RowV M hi3 40 4 wr ad3 cap3 c.len (repF x y true o3 g1) g2 ∧ room - needF YB op f1 - needF YB op d1 - needF YB op g1 ≤ rs ∧ rs ≤ room ∧ hi3 ≤ wr.heap.size) (fun i _ => c.len - (intOf i).toNat)
  case atStart => exact ⟨.nil, c, rq, rfl, rfl, HP31.out, HN31.out, HA31.out, HB31.out, HW31.out, by rw [needF_nil]; omega, hq2, hlo31⟩
  case round =>
    clear HQ2 HP31 HN31 HA31 HB31 HW31 i7
    obtain ⟨g1, g2, rs, hf, rfl, hP3, hN, hA, hB, hRw, hs1, hs2, hlw⟩ := hrel
    have HFe := Lib.hid hf
    have HQ3 := Lib.hid hP3
    have HN := Lib.hid hN
    have HA := Lib.hid hA
    have HB := Lib.hid hB
    have HRw := Lib.hid hRw
    have hfl := congrArg Fx.len hf
    rw [Fx.len_app] at hfl
    have i7r := hP3.ex.c7
    have k7r := cell_of hP3.h7 7 _ rfl
    have hgr := hP3.gr.size
    have hlt7 := hP3.lt
    clear hf hP3 hN hA hB hRw
    cases g2 with
    | nil =>
      have hlt : ¬ g1.len < c.len := by simp only [Fx.len] at hfl; omega
      clear hfl
      obtain rfl : g1 = c := by
        have := HFe.out
        rw [Fx.app_nil] at this
        exact this.symm
      have HV3 := Lib.hid (show FxV (Amid M (B7 + 1) wr.heap.size) wr 4 (.slice ad3 g1.len cap3) (repF x y true o3 g1) from HRw.out.value fun g hg => by
        rcases hg with hg | hg
        · exact .inl hg
        · exact .inr ⟨by omega, hg.2⟩)
      have f63 := fun o => frozen_of HQ3.out.h6 o
      have k6_0 := cell_of HQ3.out.h6 0 _ rfl
      have k6_1 := cell_of HQ3.out.h6 1 _ rfl
      have k6_2 := cell_of HQ3.out.h6 2 _ rfl
      have k6_3 := cell_of HQ3.out.h6 3 _ rfl
      have k6_4 := cell_of HQ3.out.h6 4 _ rfl
      have k6_5 := cell_of HQ3.out.h6 5 _ rfl
      have k6_6 := cell_of HQ3.out.h6 6 _ rfl
      have k6_7 := cell_of HQ3.out.h6 7 _ rfl
      have k7_0 := cell_of HQ3.out.h7 0 _ rfl
      have k7_1 := cell_of HQ3.out.h7 1 _ rfl
      have k7_2 := cell_of HQ3.out.h7 2 _ rfl
      have k7_3 := cell_of HQ3.out.h7 3 _ rfl
      have k7_4 := cell_of HQ3.out.h7 4 _ rfl
      have k7_5 := cell_of HQ3.out.h7 5 _ rfl
      have k7_6 := cell_of HQ3.out.h7 6 _ rfl
      clear i7r
      go_wp2_with fail
      obtain ⟨wE, hwE, hgE, h6E⟩ := cp_end (.int .i64 k) (.string (bt s)) (.int .i64 nn) (.int .i64 op') (.slice a8 ns.length c8) (.slice ad1 f1.len cap1) (.slice ad2 d1.len cap2) (.slice ad3 g1.len cap3) HQ3.out.h6
      rw [← hwE]
      clear hwE
      refine bodyPost_ret (results_cell_row rfl _ _ W.heap.size 27 #[.int .i64 k, .string (bt s), .int .i64 nn, .int .i64 op', .slice a8 ns.length c8, .slice ad1 f1.len cap1, .slice ad2 d1.len cap2, .slice ad3 g1.len cap3] (0, 0) (.struct cpFs) rfl h6E under_cp rfl size_cp) rfl ?_
      have hsE := hgE.size
      have hk3 := amid_wide hgE (M := M) (lo := B7 + 1) (lo' := W.heap.size) (hi := hi3) (hi' := wE.heap.size) (fun q e => by cases e; exact ⟨hMW, .inl (by omega)⟩) hlw (by omega) (by omega) (by omega)
      have hk4 := amid_wide hgE (M := M) (lo := B7 + 1) (lo' := W.heap.size) (hi := wr.heap.size) (hi' := wE.heap.size) (fun q e => by cases e; exact ⟨hMW, .inl (by omega)⟩) (Nat.le_refl _) hsE (by omega) (by omega)
      refine ⟨_, _, _, _, rfl, ⟨HN.out.keep hk3, HA.out.keep hk3, HB.out.keep hk3, (show FxV (Amid M W.heap.size wE.heap.size) wE 4 (.slice ad3 g1.len cap3) (repF x y true (o2 && !decide (s = x)) g1) from by rw [HO3.out]; exact HV3.out.keep hk4)⟩, ⟨rs, (hgE.block rb (by omega) (by simp; omega)).trans HQ3.out.rp.rp, ?_, hs2⟩, ?_⟩
      · have := needF_le (YB := YB) (op := op) (a := f1) (b := d1) (c := g1)
        omega
      · have t3 := HQ3.out.gr
        exact ⟨hgE.os.trans t3.os, hgE.tape.trans t3.tape, hgE.output.trans t3.output, by omega, fun i hi hn => (hgE.block i (by omega) (by simp; omega)).trans (t3.block i hi hn)⟩
    | cons p k1 s1 n1 op1 ns1 xa xb xc r =>
      have hlt : g1.len < c.len := by simp only [Fx.len] at hfl; omega
      obtain ⟨bb, oo, xn, va, vb, vc, e, hbb, hlc, hcm, _, hp, c0, c1, c2, c3, c4, c5, c6, c7, hx⟩ := fx_at HQ3.out.ex.ex.c HFe.out
      subst e
      cases p with
      | no => exact absurd (show (4 : Nat) = 0 from hp) (by decide)
      | bind t => exact absurd hp.1 (by decide)
      | alt k0 s0 n0 ns0 =>
        obtain ⟨_, p0, p1, p2, v3, p3, hv3⟩ := hp
        obtain ⟨g, e, hst⟩ := HRw.out.cons
        subst e
        have hbbM : bb < M := hbb
        obtain ⟨a3, q3, rfl⟩ := hv3.slice
        obtain ⟨xn1, xn2, rfl⟩ := hx.ns.slice
        obtain ⟨xa1, xa2, rfl⟩ := hx.a.slice
        obtain ⟨xb1, xb2, rfl⟩ := hx.b.slice
        obtain ⟨xc1, xc2, rfl⟩ := hx.c.slice
        have hcn1 : (parts xa xb xc).count < n ∧ (parts xa xb xc).count ≤ 131072 ∧ costE ns1 xa xb xc ≤ 1048576 ∧ ns0.length ≤ 1048576 := by
          clear k7r i7r c0 c1 c2 c3 c4 c5 c6 c7 p0 p1 p2 p3 hs1 hq1 hrm
          have h1 := congrArg Fx.count HFe.out
          have h2 := congrArg Fx.cost HFe.out
          rw [Fx.count_app] at h1
          rw [cost_app] at h2
          have h3 := parts_count f1 d1 c
          have h4 : (Fx.cons (.alt k0 s0 n0 ns0) k1 s1 n1 op1 ns1 xa xb xc r).cost = (Pre.alt k0 s0 n0 ns0).cost + costE ns1 xa xb xc + r.cost := rfl
          have h8 : ns0.length ≤ (Pre.alt k0 s0 n0 ns0).cost := Nat.le_refl _
          have h5 := parts_count xa xb xc
          have h6 : (Fx.cons (.alt k0 s0 n0 ns0) k1 s1 n1 op1 ns1 xa xb xc r).count = 1 + xa.count + xb.count + xc.count + r.count := by simp only [Fx.count]; omega
          have h7 : costE ns f1 d1 c = 1 + ns.length + d1.len + (f1.cost + d1.cost + c.cost) := rfl
          omega
        have hnd : (need YB o3 (parts xa xb xc).count : Int) ≤ rs ∧ rs - need YB o3 (parts xa xb xc).count ≥ room - needF YB op f1 - needF YB op d1 - needF YB op (g1.app (.cons (.alt k0 s0 n0 ns0) k1 s1 n1 op1 ns1 xa xb xc .nil)) := by
          clear k7r i7r c0 c1 c2 c3 c4 c5 c6 c7 p0 p1 p2 p3 hcn1
          have h1 := need_le (YB := YB) HOo.out (Nat.le_refl (parts xa xb xc).count)
          have h2 := needF_app YB op g1 (.cons (.alt k0 s0 n0 ns0) k1 s1 n1 op1 ns1 xa xb xc .nil)
          rw [needF_one] at h2
          have h3 : needF YB op c = needF YB op g1 + needF YB op (.cons (.alt k0 s0 n0 ns0) k1 s1 n1 op1 ns1 xa xb xc r) := by
            have := needF_app YB op g1 (.cons (.alt k0 s0 n0 ns0) k1 s1 n1 op1 ns1 xa xb xc r)
            rw [← HFe.out] at this
            exact this
          have h4 : needF YB op (.cons (.alt k0 s0 n0 ns0) k1 s1 n1 op1 ns1 xa xb xc r) = need YB op (parts xa xb xc).count + needF YB op r := by
            have := needF_app YB op (.cons (.alt k0 s0 n0 ns0) k1 s1 n1 op1 ns1 xa xb xc .nil) r
            rw [needF_one] at this
            exact this
          have h5 := needF_le (YB := YB) (op := op) (a := f1) (b := d1) (c := c)
          omega
        have HCn := Lib.hid hcn1
        have HNd := Lib.hid hnd
        have hgl := hst.low
        have HCe := Lib.hid (show (NsV (Old M) wr (.slice a3 ns0.length q3) ns0 ∧ ExV (Old M) wr (.slice xn1 ns1.length xn2) (.slice xa1 xa.len xa2) (.slice xb1 xb.len xb2) (.slice xc1 xc.len xc2) ns1 xa xb xc) ∧ wr.cell? ⟨B7, 7, none⟩ = some (.slice (some ⟨g, 0, none⟩) c.len cap3) ∧ wr.cell? ⟨bk, of + 7, none⟩ = some (.slice (some ⟨bb, oo, none⟩) c.len cc) ∧ wr.cell? ⟨bk, of + 1, none⟩ = some (.string (bt s)) ∧ wr.cell? ⟨rb, 0, none⟩ = some (.string (bt x)) ∧ wr.cell? ⟨bb, oo + g1.len * 12, none⟩ = some (.int .i64 k0) ∧ wr.cell? ⟨bb, oo + g1.len * 12 + 1, none⟩ = some (.string (bt s0)) ∧ wr.cell? ⟨bb, oo + g1.len * 12 + 2, none⟩ = some (.int .i64 n0) ∧ wr.cell? ⟨bb, oo + g1.len * 12 + 3, none⟩ = some (.slice a3 ns0.length q3) ∧ wr.cell? ⟨bb, oo + g1.len * 12 + 4, none⟩ = some (.int .i64 k1) ∧ wr.cell? ⟨bb, oo + g1.len * 12 + 5, none⟩ = some (.string (bt s1)) ∧ wr.cell? ⟨bb, oo + g1.len * 12 + 6, none⟩ = some (.int .i64 n1) ∧ wr.cell? ⟨bb, oo + g1.len * 12 + 7, none⟩ = some (.int .i64 op1) ∧ wr.cell? ⟨bb, oo + g1.len * 12 + 8, none⟩ = some (.slice xn1 ns1.length xn2) ∧ wr.cell? ⟨bb, oo + g1.len * 12 + 9, none⟩ = some (.slice xa1 xa.len xa2) ∧ wr.cell? ⟨bb, oo + g1.len * 12 + 10, none⟩ = some (.slice xb1 xb.len xb2) ∧ wr.cell? ⟨bb, oo + g1.len * 12 + 11, none⟩ = some (.slice xc1 xc.len xc2) from
          ⟨⟨hv3, hx⟩, cell_of HQ3.out.h7 7 _ rfl, HQ3.out.ex.c7, HQ3.out.ex.c1, cell_of HQ3.out.rp.rp 0 _ rfl, p0, p1, p2, p3, c0, c1, c2, c3, c4, c5, c6, c7⟩)
        have HSt := Lib.hid hst
        have HB1 := Lib.hid (And.intro hlc hcm)
        clear hcn1 hnd hst hv3 hx p0 p1 p2 p3 c0 c1 c2 c3 c4 c5 c6 c7 hfl hbb hlc hcm i7r k7r
        have HX := Lib.hid (show ∀ (w13 wE : World) (rm13 : Int), wr.drew.grownBy w13 (some rb) → w13.grownBy wE (some g) → CpW M rb ybk yof x y YB W w13 rm13 W.heap.size B7 bk of k s nn op' (.slice an ns.length cn) (.slice aa f1.len ca) (.slice ab d1.len cb) (.slice (some ⟨bb, oo, none⟩) c.len cc) ns f1 d1 c (.slice a8 ns.length c8) (.slice ad1 f1.len cap1) (.slice ad2 d1.len cap2) (.slice (some ⟨g, 0, none⟩) c.len cap3) → CpW M rb ybk yof x y YB W wE rm13 W.heap.size B7 bk of k s nn op' (.slice an ns.length cn) (.slice aa f1.len ca) (.slice ab d1.len cb) (.slice (some ⟨bb, oo, none⟩) c.len cc) ns f1 d1 c (.slice a8 ns.length c8) (.slice ad1 f1.len cap1) (.slice ad2 d1.len cap2) (.slice (some ⟨g, 0, none⟩) c.len cap3) → RowSt M hi3 40 4 wE g cap3 c.len ((repF x y true o3 g1).app ((repE x y (o3 && !decide (x ∈ ns0)) k1 s1 n1 op1 ns1 xa xb xc).fx (.alt k0 s0 n0 ns0) .nil)) r → rs - need YB o3 (parts xa xb xc).count ≤ rm13 → rm13 ≤ rs →
            ∃ (g1' g2' : Fx) (rs' : Int), c = g1'.app g2' ∧ g1'.len = g1.len + 1 ∧ CpW M rb ybk yof x y YB W wE rs' W.heap.size B7 bk of k s nn op' (.slice an ns.length cn) (.slice aa f1.len ca) (.slice ab d1.len cb) (.slice (some ⟨bb, oo, none⟩) c.len cc) ns f1 d1 c (.slice a8 ns.length c8) (.slice ad1 f1.len cap1) (.slice ad2 d1.len cap2) (.slice (some ⟨g, 0, none⟩) c.len cap3) ∧ NsV (Amid M (B7 + 1) hi3) wE (.slice a8 ns.length c8) ns ∧ FxV (Amid M (B7 + 1) hi3) wE 0 (.slice ad1 f1.len cap1) (repF x y false o2 f1) ∧ FxV (Amid M (B7 + 1) hi3) wE 1 (.slice ad2 d1.len cap2) (repF x y false o2 d1) ∧ RowV M hi3 40 4 wE (some ⟨g, 0, none⟩) cap3 c.len (repF x y true o3 g1') g2' ∧ room - needF YB op f1 - needF YB op d1 - needF YB op g1' ≤ rs' ∧ rs' ≤ room ∧ hi3 ≤ wE.heap.size from fun w13 wE rm13 hg tE hp13 hpE hput h1 h2 => by
          have hsE := tE.size
          have hs13 := hg.size
          have hk1 := amid_wide (w := wr.drew) hg (M := M) (lo := B7 + 1) (lo' := B7 + 1) (hi := hi3) (hi' := hi3) (fun q e => by cases e; exact ⟨hMR, .inl (by omega)⟩) hlw (Nat.le_refl _) HQ3.out.rp.hMW (Nat.le_refl _)
          have hk2 := amid_wide tE (M := M) (lo := B7 + 1) (lo' := B7 + 1) (hi := hi3) (hi' := hi3) (fun q e => by cases e; exact ⟨by omega, .inr hgl⟩) (Nat.le_trans hlw hs13) (Nat.le_refl _) hp13.rp.hMW (Nat.le_refl _)
          have hkd : Keep (Amid M (B7 + 1) hi3) (Amid M (B7 + 1) hi3) wr wr.drew := fun g hg => ⟨hg, fun _ => rfl⟩
          have hnd := HNd.out.2
          refine ⟨g1.app (.cons (.alt k0 s0 n0 ns0) k1 s1 n1 op1 ns1 xa xb xc .nil), r, rm13, by rw [Fx.app_app]; exact HFe.out, by rw [Fx.len_app]; rfl, hpE, ((HN.out.keep hkd).keep hk1).keep hk2, ((HA.out.keep hkd).keep hk1).keep hk2, ((HB.out.keep hkd).keep hk1).keep hk2, .inr ⟨g, rfl, ?_⟩, by omega, by omega, Nat.le_trans hlw (Nat.le_trans hs13 hsE)⟩
          rw [repF_app, repF_cons, repF_nil, show (o3 && seesP x true (.alt k0 s0 n0 ns0)) = (o3 && !decide (x ∈ ns0)) from rfl]
          exact hput)
        go_wp2_with fail
        refine wp_code (c' := cpR25) (by kernel_rfl) ?_
        refine Code.wp_mono NoPanic.imp ?_
        cases o2 with
        | false =>
          refine alt_round_off M rb ybk yof x y YB n op o3 (by have := HO3.out; simpa using this.symm) HC.out HOo.out W wr rs _ B7 bk of k s nn op' _ _ _ cc ns f1 d1 c _ _ _ bb oo g cap3 hi3 g1 r k0 s0 n0 ns0 k1 s1 n1 op1 ns1 xa xb xc (repF x y true o3 g1) (repF_len _ _ _ _ _) HQ3.out HSt.out hlow3 a3 q3 xn1 xn2 xa1 xa2 xb1 xb2 xc1 xc2 HCe.out.1.1 HCe.out.1.2 hbbM HCe.out.2 HCn.out HNd.out.1 hlt hcl HB1.out.1 HB1.out.2 (fun _ _ _ _ _ h => h) _ _ _ _ _ _ _ _ _ _ _ _ _ _ _ _ _ _ _ _ _ _ _ _ _ _ _ _ _ _ _ _ _ _ _ _ _ _ _ _ _ _ _ _ _ _ _ _ _ _ _ _ _ _ _ _ _ _ _ _ _ _ _ _ _ _ _ _ _ _ _ _ _ _ _ _ _ _ _ _ _ _ _ _ _ _ _ _ _ _ _ _ _ _ _ _ _ _ _ _ _ _ _ _ _ _ _ _ _ _ _ _ _ _ _ _ _ _ _ _ _ _ _ _ _ _ _ _ _ _ _ _ _ _ _ _ _ _ _ _ _ _ _ _ _ _ _ _ _ _ _ _ _ _ _ _ _ _ _ _ _ _ _ _ _ _ _ _ _ _ _ _ _ _ _ _ _ _ _ _ _ ?_
          intro x159 x160 x161 x162 x163 x164 x165 x166 x167 x168 x169 x170 x171 x172 x173 x174 x175 x176 x177 x178 x179 x180 x181 x182 x183 w13 wE rm13 q1 q2 q3 q4 q5 q6 q7
          obtain ⟨g1', g2', rs', e1, e2, e3⟩ := HX.out w13 wE rm13 q1 q2 q3 q4 q5 q6 q7
          have E3 := Lib.hid e3
          have E1 := Lib.hid e1
          have E2 := Lib.hid e2
          clear q1 q2 q3 q4 q5 q6 q7 e1 e2 e3
          refine NoPanic.normal ?_
          go_wp2_with fail
          go_roundw
          case rel => exact ⟨g1', g2', rs', E1.out, by rw [E2.out]; go_num, E3.out⟩
          case measure => simp [intOf]; omega
        | true =>
          refine alt_round_on M rb ybk yof x y YB n op o3 HC.out HOo.out W wr rs _ B7 bk of k s nn op' _ _ _ cc ns f1 d1 c _ _ _ bb oo g cap3 hi3 g1 r k0 s0 n0 ns0 k1 s1 n1 op1 ns1 xa xb xc (repF x y true o3 g1) (repF_len _ _ _ _ _) HQ3.out HSt.out hlow3 a3 q3 xn1 xn2 xa1 xa2 xb1 xb2 xc1 xc2 HCe.out.1.1 HCe.out.1.2 hbbM HCe.out.2 HCn.out HNd.out.1 hlt hcl HB1.out.1 HB1.out.2 (by have := HO3.out; simpa using this) (fun _ _ _ _ _ h => h) _ _ _ _ _ _ _ _ _ _ _ _ _ _ _ _ _ _ _ _ _ _ _ _ _ _ _ _ _ _ _ _ _ _ _ _ _ _ _ _ _ _ _ _ _ _ _ _ _ _ _ _ _ _ _ _ _ _ _ _ _ _ _ _ _ _ _ _ _ _ _ _ _ _ _ _ _ _ _ _ _ _ _ _ _ _ _ _ _ _ _ _ _ _ _ _ _ _ _ _ _ _ _ _ _ _ _ _ _ _ _ _ _ _ _ _ _ _ _ _ _ _ _ _ _ _ _ _ _ _ _ _ _ _ _ _ _ _ _ _ _ _ _ _ _ _ _ _ _ _ _ _ _ _ _ _ _ _ _ _ _ _ _ _ _ _ _ _ _ _ _ _ _ _ _ _ _ _ _ _ _ ?_
          intro x159 x160 x161 x162 x163 x164 x165 x166 x167 x168 x169 x170 x171 x172 x173 x174 x175 x176 x177 x178 x179 x180 x181 x182 x183 w13 wE rm13 q1 q2 q3 q4 q5 q6 q7
          obtain ⟨g1', g2', rs', e1, e2, e3⟩ := HX.out w13 wE rm13 q1 q2 q3 q4 q5 q6 q7
          have E3 := Lib.hid e3
          have E1 := Lib.hid e1
          have E2 := Lib.hid e2
          clear q1 q2 q3 q4 q5 q6 q7 e1 e2 e3
          refine NoPanic.normal ?_
          go_wp2_with fail
          go_roundw
          case rel => exact ⟨g1', g2', rs', E1.out, by rw [E2.out]; go_num, E3.out⟩
          case measure => simp [intOf]; omega
end Go.Proofs.YtfcogjlojfcfkaaGreat
end

section
namespace Go.Proofs.YtfcogjlojfcfkaaGreat
open Go

section
variable {P : Program} {md : Region.Mode} {S : World → Prop} {Q : Exit → Act → World → Prop} {l : List Oper}

/-- Stretches of numbers (from where, how many), and the operations that they name. -/
def idxOf : List (Nat × Nat) → List Nat
  | [] => []
  | p :: r => List.range' p.1 p.2 ++ idxOf r
def opsOf (l : List Oper) : List (Nat × Nat) → List Oper
  | [] => []
  | p :: r => (l.drop p.1).take p.2 ++ opsOf l r
def okOf (n : Nat) : List (Nat × Nat) → Bool
  | [] => true
  | p :: r => decide (p.1 + p.2 ≤ n) && okOf n r
theorem idx_some (l : List Oper) : ∀ (rs : List (Nat × Nat)), okOf l.length rs = true → (idxOf rs).map (fun i => l.toArray[i]?) = (opsOf l rs).map some := by
  intro rs
  induction rs with
  | nil => intro _; rfl
  | cons p r ih =>
    intro h
    simp only [okOf, Bool.and_eq_true, decide_eq_true_eq] at h
    simp only [idxOf, opsOf, List.map_append, range_some l p.2 p.1 h.1, ih h.2]
/-- Parts: reads, then one that writes. -/
def segO (P : Program) (l : List Oper) (S : World → Prop) (Q : Exit → Act → World → Prop) (t : List (Nat × Nat)) : List (List (Nat × Nat) × Nat) → Act → World → Prop
  | [], a, w => hwStill P l.toArray S (fun a' => Q .normal a' w) (opsOf l t) a
  | g :: r, a, w => hwStill P l.toArray S (fun a' => wpOp P l.toArray Q g.2 (fun a2 w2 => S w2 ∧ segO P l S Q t r a2 w2) a' w) (opsOf l g.1) a
def segB (md : Region.Mode) (l : List Oper) (t : List (Nat × Nat)) : List (List (Nat × Nat) × Nat) → Array Bool → Bool
  | [], listed => okOf l.length t && takeB md l.toArray (fun u => decide (Region.ready md l.toArray u = [])) (idxOf t) listed
  | g :: r, listed => okOf l.length g.1 && takeB md l.toArray (fun u => decide (Region.ready md l.toArray u = [g.2]) && segB md l t r (u.setIfInBounds g.2 true)) (idxOf g.1) listed
def segN (t : List (Nat × Nat)) : List (List (Nat × Nat) × Nat) → Nat
  | [] => (idxOf t).length
  | g :: r => segN t r + 1 + (idxOf g.1).length

theorem anyH_segs (hsel : Region.noSelect l.toArray = true) (hQ : ∀ c a d v w, Q (.panic c) (a.put d v) w → Q (.panic c) a w) (t : List (Nat × Nat)) :
    ∀ (segs : List (List (Nat × Nat) × Nat)) (listed : Array Bool) (a : Act) (w : World), S w → segB md l t segs listed = true → segO P l S Q t segs a w → wpAnyH P md l.toArray Q S (segN t segs) listed a w := by
  intro segs
  induction segs with
  | nil =>
    intro listed a w hS hB h
    simp only [segB, Bool.and_eq_true] at hB
    have := anyH_takes (f := 0) (K := fun u => decide (Region.ready md l.toArray u = [])) hsel hQ hS (fun listed a hr h => wpAnyH_done (by simpa using hr) h 0) (idxOf t) (opsOf l t) listed a (idx_some l t hB.1) hB.2 h
    rwa [Nat.zero_add] at this
  | cons g r ih =>
    intro listed a w hS hB h
    simp only [segB, Bool.and_eq_true] at hB
    refine anyH_takes (f := segN t r + 1) (K := fun u => decide (Region.ready md l.toArray u = [g.2]) && segB md l t r (u.setIfInBounds g.2 true)) hsel hQ hS (fun listed a hp h => ?_) (idxOf g.1) (opsOf l g.1) listed a (idx_some l g.1 hB.1) hB.2 h
    simp only [Bool.and_eq_true, decide_eq_true_eq] at hp
    refine wpAnyH_all hp.1 (by simp) (fun i hi => ?_)
    obtain rfl : i = g.2 := by simpa using hi
    exact wpOp_mono (fun a2 w2 h2 => ⟨h2.1, ih _ a2 w2 h2.1 hp.2 h2.2⟩) h

/-- The parts, kept shut. -/
structure SegW (P : Program) (l : List Oper) (S : World → Prop) (Q : Exit → Act → World → Prop) (t : List (Nat × Nat)) (segs : List (List (Nat × Nat) × Nat)) (a : Act) (w : World) : Prop where
  out : segO P l S Q t segs a w
/-- The one that writes, kept shut. -/
structure SegK (P : Program) (l : List Oper) (S : World → Prop) (Q : Exit → Act → World → Prop) (t : List (Nat × Nat)) (n : Nat) (r : List (List (Nat × Nat) × Nat)) (w : World) (a : Act) : Prop where
  out : wpOp P l.toArray Q n (fun a2 w2 => S w2 ∧ segO P l S Q t r a2 w2) a w
theorem segw_go {t is : List (Nat × Nat)} {n : Nat} {r : List (List (Nat × Nat) × Nat)} {a : Act} {w : World} (h : HWk P l.toArray S (SegK P l S Q t n r w) (opsOf l is) a) : SegW P l S Q t ((is, n) :: r) a w :=
  ⟨hw_imp (fun _ h => h.out) _ _ h.out⟩
theorem segw_end {t : List (Nat × Nat)} {a : Act} {w : World} (h : HWk P l.toArray S (fun a' => Q .normal a' w) (opsOf l t) a) : SegW P l S Q t [] a w := ⟨h.out⟩
theorem segk_want {t : List (Nat × Nat)} {n : Nat} {r : List (List (Nat × Nat) × Nat)} {a : Act} {w : World} {o : Oper} (ho : l.toArray[n]? = some o) (hw : Region.wanted o (yielded l.toArray a.tmps) = true)
    (h : ∀ K : Act → World → Prop, (∀ a2 w2, S w2 → SegW P l S Q t r a2 w2 → K a2 w2) → o.wp P a w K Q) : SegK P l S Q t n r w a := by
  refine ⟨?_⟩
  unfold wpOp
  simp only [ho, hw, if_true]
  exact .inl (h _ fun a2 w2 h1 h2 => ⟨h1, h2.out⟩)
theorem segk_skip {t : List (Nat × Nat)} {n : Nat} {r : List (List (Nat × Nat) × Nat)} {a : Act} {w : World} {o : Oper} (ho : l.toArray[n]? = some o) (hw : Region.wanted o (yielded l.toArray a.tmps) = false)
    (hS : S w) (h : SegW P l S Q t r (a.put o.dst undef) w) : SegK P l S Q t n r w a := by
  refine ⟨?_⟩
  unfold wpOp
  simp only [ho, hw, Bool.false_eq_true, if_false]
  exact ⟨hS, h.out⟩
theorem region_seg {id : Nat} {a : Act} {w : World} (S : World → Prop) (segs : List (List (Nat × Nat) × Nat)) (t : List (Nat × Nat)) (hm : P.follows .mixedOrders = true) (hB : (Region.noSelect l.toArray && decide (segN t segs = l.toArray.size) && segB .any l t segs (Array.replicate l.toArray.size false)) = true)
    (hQ : ∀ c a d v w, Q (.panic c) (a.put d v) w → Q (.panic c) a w) (hS : S w.drew) (h : SegW P l S Q t segs a w.drew) : (Code.region id l.toArray true).wp P Q a w := by
  simp only [Bool.and_eq_true, decide_eq_true_eq] at hB
  refine wp_region_held_drew (S := S) hm hS (fun _ => ?_)
  have := anyH_segs (P := P) (md := .any) hB.1.1 hQ t segs _ a w.drew hS hB.2 h.out
  rwa [hB.1.2] at this
end
end Go.Proofs.YtfcogjlojfcfkaaGreat
end
