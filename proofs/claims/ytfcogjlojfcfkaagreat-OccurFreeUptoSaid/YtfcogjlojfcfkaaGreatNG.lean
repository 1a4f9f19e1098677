/- The replacer's copy. No condition but bounds on how many parts and names there are. -/
import Derived.Test.YtfcogjlojfcfkaaGreatNE
import Derived.Test.YtfcogjlojfcfkaaGreatNF
section
namespace Go.Proofs.YtfcogjlojfcfkaaGreat
open Go.RowKit Ex0
attribute [local go_sem] bt_size bt_list bt_toList

/-- What has been made stays made behind what comes later. -/
theorem exv_wide {M lo lo' hi hi' : Nat} {w w' : World} {row : Option Nat} {vn va vb vc : Value} {ns : List (List UInt8)} {a b c : Fx} (h : ExV (Amid M lo hi) w vn va vb vc ns a b c) (t : w.grownBy w' row) (hr : ∀ q, row = some q → M ≤ q ∧ (q < lo ∨ hi ≤ q)) (h1 : hi ≤ w.heap.size) (h2 : hi ≤ hi') (h3 : M ≤ w.heap.size) (h4 : lo' ≤ lo) : ExV (Amid M lo' hi') w' vn va vb vc ns a b c :=
  (h.keep (amid_keep t hr h1 h2 h3)).keep (keep_le w' fun b hb => by
    rcases hb with hb | hb
    · exact .inl hb
    · exact .inr ⟨by omega, hb.2⟩)

set_option maxHeartbeats 4000000 in
set_option maxRecDepth 100000 in
theorem copy_step (M rb ybk yof : Nat) (x : List UInt8) (y : By) (YB n : Nat) (op : Bool) (hY : costE y.ns y.a y.b y.c ≤ 1048576) (hY2 : (parts y.a y.b y.c).count ≤ 131072) (hC : ∀ o, (o = true → op = true) → CopyC M rb ybk yof x y YB o n)
    (hF : op = true → ∀ N, CopyC M rb ybk yof x y YB false N) : CopyC M rb ybk yof x y YB op (n + 1) := by
  intro bk of k s nn op' vn va vb vc ns a b c W room hn hE hR hce hcn hrm
  obtain ⟨an, cn, rfl⟩ := hE.ex.ns.slice
  obtain ⟨aa, ca, rfl⟩ := hE.ex.a.slice
  obtain ⟨ab, cb, rfl⟩ := hE.ex.b.slice
  obtain ⟨ac, cc, rfl⟩ := hE.ex.c.slice
  have HR := Lib.hid hR
  have HE := Lib.hid hE
  have HC := Lib.hid hC
  have HF := Lib.hid hF
  have hMW := hR.hMW
  have hrbW := hR.lt
  have hbkW := hE.lt
  have hroom : 0 ≤ room := by omega
  have htop := hR.top
  have z0 := fun o => cell_al hrbW (cell_of hR.rp 0 (.string (bt x)) rfl) o
  have z1 := fun o => cell_al hrbW (cell_of hR.rp 1 (.pointer (some ⟨ybk, yof, none⟩)) rfl) o
  have z2 := fun o => cell_al hrbW (cell_of hR.rp 2 (.int .i64 YB) rfl) o
  have z3 := fun o => cell_al hrbW (cell_of hR.rp 3 (.int .i64 room) rfl) o
  have e0 := fun o => cell_al hbkW hE.c0 o
  have e1 := fun o => cell_al hbkW hE.c1 o
  clear hR hE hC hF
  go_enter Tryz.func20, Tryz.ntmps20
  go_upto_region 3 with fail
  generalize hW1 : World.alloc W _ = W1
  have hb1 : Below W.heap.size W W1 := by rw [← hW1]; exact below_alloc' W _
  have hs1 : W1.heap.size = W.heap.size + 1 := by rw [← hW1]; simp
  have h6 : W1.heap[W.heap.size]? = some (.cells #[.int .i64 0, .string ⟨#[]⟩, .int .i64 0, .int .i64 0, .slice none 0 0, .slice none 0 0, .slice none 0 0, .slice none 0 0] 27 (0, 0)) := by
    rw [← hW1]; exact World.alloc_heap_new W _
  have g0 := z0 (.cells #[.int .i64 0, .string ⟨#[]⟩, .int .i64 0, .int .i64 0, .slice none 0 0, .slice none 0 0, .slice none 0 0, .slice none 0 0] 27)
  have j0 := e0 (.cells #[.int .i64 0, .string ⟨#[]⟩, .int .i64 0, .int .i64 0, .slice none 0 0, .slice none 0 0, .slice none 0 0, .slice none 0 0] 27)
  have j1 := e1 (.cells #[.int .i64 0, .string ⟨#[]⟩, .int .i64 0, .int .i64 0, .slice none 0 0, .slice none 0 0, .slice none 0 0, .slice none 0 0] 27)
  rw [hW1] at g0 j0 j1
  clear hW1 z0 z1 z2 z3 e0 e1
  have HB1 := Lib.hid hb1
  have H6 := Lib.hid h6
  clear hb1 h6
  go_cut [35] (fun s35 wx => s35 = .bool (op && ((k == 1) && decide (s = x))) ∧ Below W1.heap.size W1 wx)
  case first =>
    cases op with
    | false =>
      go_quiet (fail)
      go_wp2_with fail
      go_meet
      exact ⟨rfl, below_same (Below.refl _ _) rfl rfl rfl rfl⟩
    | true =>
      cases hk : (k == 1) with
      | false =>
        go_quiet (fail)
        go_wp2_with fail
        go_meet
        exact ⟨by rw [hk]; rfl, below_same (Below.refl _ _) rfl rfl rfl rfl⟩
      | true =>
        go_quiet (fail)
        go_wp2_with fail
        go_meet
        exact ⟨by rw [hk]; by_cases h : s = x <;> simp [h], below_same (Below.refl _ _) rfl rfl rfl rfl⟩
  case rest =>
    obtain ⟨rfl, hbc⟩ := hcut
    rename World => wb
    have hsc := hbc.size
    have rc := (show RpAt wb rb x ⟨ybk, yof, none⟩ YB room from (hbc.block rb (by omega)).trans ((HB1.out.block rb hrbW).trans HR.out.rp))
    have hal : rb < wb.heap.size := by omega
    have HBc := Lib.hid (HB1.out.trans (hbc.mono (by omega)))
    have h6c := (hbc.block W.heap.size (by omega)).trans H6.out
    have H6c := Lib.hid h6c
    clear g0 j0 j1 hbc h6c
    cases hq : (op && ((k == 1) && decide (s = x))) with
    | true =>
      have hop : op = true := by cases op <;> simp_all
      subst hop
      have hne : need YB true (parts a b c).count = YB * (1 + (parts a b c).count) := rfl
      have hYB : (YB : Int) ≤ room := by
        have h1 : YB * 1 ≤ YB * (1 + (parts a b c).count) := Nat.mul_le_mul_left _ (by omega)
        omega
      have c0 := cell_of rc 1 (.pointer (some ⟨ybk, yof, none⟩)) rfl
      have c2 := cell_of rc 2 (.int .i64 YB) rfl
      have c3 := cell_of rc 3 (.int .i64 room) rfl
      have f3 := frozen_of rc 3
      have hYB0 : (0 : Int) ≤ YB := by omega
      have hwr : IntKind.i64.wrap (room - YB) = room - YB := by rw [IntKind.wrap_i64]; omega
      have RC := Lib.hid rc
      have HQ := Lib.hid hq
      clear rc hq hrm hne
      go_wp2_with fail
      refine region_one 13 (by kernel_rfl) (by kernel_rfl) ?_
      simp only [List.take_succ_cons, List.take_zero, List.drop_succ_cons, List.drop_zero]
      refine swk_want (by rfl) (fun K hK => ?_)
      replace hK := Lib.hid hK
      go_simp
      refine hK.out _ ?_
      clear hK K
      refine swk_want (by rfl) (fun K hK => ?_)
      replace hK := Lib.hid hK
      go_simp
      refine hK.out _ ?_
      clear hK K
      refine swk_want (by rfl) (fun K hK => ?_)
      replace hK := Lib.hid hK
      go_simp
      refine hK.out _ ?_
      clear hK K
      refine swk_want (by rfl) (fun K hK => ?_)
      replace hK := Lib.hid hK
      go_simp
      refine hK.out _ ?_
      clear hK K
      refine swk_want (by rfl) (fun K hK => ?_)
      replace hK := Lib.hid hK
      go_simp
      refine hK.out _ ?_
      clear hK K
      refine swk_want (by rfl) (fun K hK => ?_)
      replace hK := Lib.hid hK
      go_simp
      refine hK.out _ ?_
      clear hK K
      refine swk_want (by rfl) (fun K hK => ?_)
      replace hK := Lib.hid hK
      go_simp
      refine hK.out _ ?_
      clear hK K
      refine swk_want (by rfl) (fun K hK => ?_)
      replace hK := Lib.hid hK
      go_simp
      refine hK.out _ ?_
      clear hK K
      refine swk_want (by rfl) (fun K hK => ?_)
      replace hK := Lib.hid hK
      go_simp
      refine hK.out _ ?_
      clear hK K
      refine swk_want (by rfl) (fun K hK => ?_)
      replace hK := Lib.hid hK
      go_simp
      refine hK.out _ ?_
      clear hK K
      refine swk_want (by rfl) (fun K hK => ?_)
      replace hK := Lib.hid hK
      go_simp
      refine hK.out _ ?_
      clear hK K
      refine swk_want (by rfl) (fun K hK => ?_)
      replace hK := Lib.hid hK
      go_simp
      refine hK.out _ ?_
      clear hK K
      refine swk_want (by rfl) (fun K hK => ?_)
      replace hK := Lib.hid hK
      go_simp
      refine hK.out _ ?_
      clear hK K
      refine swk_nil ?_
      refine one_want rfl (by rfl) (fun K hK => ?_)
      replace hK := Lib.hid hK
      go_simp
      refine hK.out _ _ ?_
      clear hK K
      simp only [List.take_succ_cons, List.take_zero, List.drop_succ_cons, List.drop_zero]
      refine swk_nil ?_
      go_wp2_with fail
      have hmx : max (room - (YB : Int)) (-1) = room - YB := by omega
      generalize hw2 : (World.setCell wb _ _).drew = w2
      have hr2 : RpAt w2 rb x ⟨ybk, yof, none⟩ YB (room - YB) := by
        rw [← hw2, hmx]
        exact (heap_set RC.out _).trans rfl
      have t2 : wb.grownBy w2 (some rb) := by rw [← hw2]; exact mz_drew (mz_set wb rb 3 _)
      have t1 : W.grownBy wb (some rb) := ⟨HBc.out.os, HBc.out.tape, HBc.out.output, HBc.out.size, fun i hi _ => HBc.out.block i hi⟩
      have t12 : W.grownBy w2 (some rb) := grow_two (t1.trans t2) (fun q e => .inl (Option.some.inj e).symm)
      clear hw2 hmx
      have hR2 : RpW M rb ybk yof x y YB w2 (room - YB) := HR.out.step t12 hr2 (by omega)
      obtain ⟨u1, u2, u3, u4, hy⟩ := hR2.y
      have hs2 := t2.size
      have h62 := (t2.block W.heap.size (by omega) (by simp; omega)).trans H6c.out
      refine (HF.out (by simp) _ ybk yof y.k y.s y.n y.op u1 u2 u3 u4 y.ns y.a y.b y.c w2 (room - YB) (Nat.lt_succ_self _) (hy.toR hR2.hM hR2.hMW) hR2 hY hY2 (by have : need YB false (parts y.a y.b y.c).count = 0 := rfl; omega)).mono ?_
      rw [repE_shut]
      rintro e w3 ⟨vn3, va3, vb3, vc3, rfl, hex3, ⟨room3, hrp3, hle3, hge3⟩, hg3⟩
      have hs3 := hg3.size
      have h63 := (hg3.block W.heap.size (by omega) (by simp; omega)).trans h62
      have f63 := fun o => frozen_of h63 o
      obtain ⟨an3, cn3, rfl⟩ := hex3.ns.slice
      obtain ⟨aa3, ca3, rfl⟩ := hex3.a.slice
      obtain ⟨ab3, cb3, rfl⟩ := hex3.b.slice
      obtain ⟨ac3, cc3, rfl⟩ := hex3.c.slice
      have H63 := Lib.hid h63
      have HX3 := Lib.hid (And.intro hex3 (And.intro hrp3 (And.intro hle3 (And.intro hge3 (grow_two (t12.trans hg3) (fun q e => .inl (Option.some.inj e).symm) : W.grownBy w3 (some rb))))))
      have hMR := HR.out.hM
      have k6_0 := cell_of h63 0 _ rfl
      have k6_1 := cell_of h63 1 _ rfl
      have k6_2 := cell_of h63 2 _ rfl
      have k6_3 := cell_of h63 3 _ rfl
      have k6_4 := cell_of h63 4 _ rfl
      have k6_5 := cell_of h63 5 _ rfl
      have k6_6 := cell_of h63 6 _ rfl
      have k6_7 := cell_of h63 7 _ rfl
      clear h62 h63 hex3 hrp3 hle3 hge3 hg3 hy hR2 t12 t1 t2 hr2 RC
      unfold exV
      dsimp only
      go_wp2_with fail
      obtain ⟨wE, hwE, hgE, h6E⟩ := cp_end (.int .i64 y.k) (.string (bt y.s)) (.int .i64 y.n) (.int .i64 y.op) (.slice an3 y.ns.length cn3) (.slice aa3 y.a.len ca3) (.slice ab3 y.b.len cb3) (.slice ac3 y.c.len cc3) H63.out
      rw [← hwE]
      clear hwE
      refine bodyPost_ret (results_cell_row rfl _ _ W.heap.size 27 #[.int .i64 y.k, .string (bt y.s), .int .i64 y.n, .int .i64 y.op, .slice an3 y.ns.length cn3, .slice aa3 y.a.len ca3, .slice ab3 y.b.len cb3, .slice ac3 y.c.len cc3] (0, 0) (.struct cpFs) rfl h6E under_cp rfl size_cp) rfl ?_
      obtain ⟨hex3, hrp3, hle3, hge3, t3⟩ := HX3.out
      have hz : repE x y true k s nn op' ns a b c = y := by
        unfold repE
        rw [HQ.out]
        rfl
      rw [hz]
      have hsE := hgE.size
      refine ⟨_, _, _, _, rfl, exv_wide hex3 hgE (fun q e => ?_) (Nat.le_refl _) hsE (by omega) (by omega), ⟨room3, ?_, ?_, by omega⟩, ?_⟩
      · cases e
        exact ⟨hMW, .inl (by omega)⟩
      · exact (hgE.block rb (by omega) (by simp; omega)).trans hrp3
      · have hne : need YB true (parts a b c).count = YB * (1 + (parts a b c).count) := rfl
        have h1 : YB * 1 ≤ YB * (1 + (parts a b c).count) := Nat.mul_le_mul_left _ (by omega)
        have h0 : need YB false (parts y.a y.b y.c).count = 0 := rfl
        omega
      · exact ⟨hgE.os.trans t3.os, hgE.tape.trans t3.tape, hgE.output.trans t3.output, by have := t3.size; omega, fun i hi hn => (hgE.block i (by have := t3.size; omega) (by simp; omega)).trans (t3.block i hi hn)⟩
    | false =>
      have hEc : ExR rb M wb bk of k s nn op' (.slice an ns.length cn) (.slice aa a.len ca) (.slice ab b.len cb) (.slice ac c.len cc) ns a b c :=
        HE.out.still (row := none) ⟨HBc.out.os, HBc.out.tape, HBc.out.output, HBc.out.size, fun i hi _ => HBc.out.block i hi⟩ (fun q e => by cases e) hMW
      have HEc := Lib.hid hEc
      have HQ := Lib.hid hq
      have r0 := cell_of rc 0 (.string (bt x)) rfl
      have e4 := hEc.c4
      have e6 := hEc.c6
      have RC := Lib.hid rc
      have RCd := Lib.hid (show RpAt wb.drew rb x ⟨ybk, yof, none⟩ YB room from rc)
      have hns : ns.length ≤ 1048576 := by unfold costE at hce; omega
      have hbl : b.len ≤ 1048576 := by
        have h1 := (parts a b c).len_le
        have h2 := parts_len a b c
        omega
      have HNd := Lib.hid (show NsV (Old M) wb.drew (.slice an ns.length cn) ns from hEc.ex.ns.keep (show Keep (Old M) (Old M) wb wb.drew from fun g hg => ⟨hg, fun _ => rfl⟩))
      have HBd := Lib.hid (show FxV (Old M) wb.drew 1 (.slice ab b.len cb) b from hEc.ex.b.keep (show Keep (Old M) (Old M) wb wb.drew from fun g hg => ⟨hg, fun _ => rfl⟩))
      have hbc : bk < wb.heap.size := by omega
      have hMc : M ≤ wb.drew.heap.size := show M ≤ wb.heap.size by omega
      clear hq rc hEc H6 HB1
      go_upto_region 6 with fail
      go_cut [2] (fun s2 wx => s2 = .bool ((op && !decide (x ∈ ns)) && !bindsX x b) ∧ Below wb.heap.size wb wx)
      case first =>
        cases op with
        | false =>
          go_quiet (fail)
          go_wp2_with fail
          go_meet
          exact ⟨rfl, below_same (Below.refl _ _) rfl rfl rfl rfl⟩
        | true =>
          refine wp_code (c' := cpR6) (by kernel_rfl) ?_
          refine Code.wp_mono NoPanic.imp ?_
          by_cases hm : x ∈ ns
          · refine open_in M rb bk of x ⟨ybk, yof, none⟩ YB room an cn ns ab cb b wb r0 e4 e6 hal hbc HNd.out HBd.out RCd.out hns hbl hMc hm (fun _ _ _ _ _ h => h) _ _ _ _ _ _ _ _ _ _ _ _ _ _ _ _ _ _ _ _ _ _ _ _ _ _ _ _ _ _ _ _ _ _ _ _ _ _ _ _ _ _ _ _ _ _ _ _ _ _ _ _ _ _ _ _ _ _ _ _ _ _ _ _ _ _ _ _ _ _ _ _ _ _ _ _ _ _ _ _ _ _ _ _ _ _ _ _ _ _ _ _ _ _ _ _ _ _ _ _ _ _ _ _ _ _ _ _ _ _ _ _ _ _ _ _ _ _ _ _ _ _ _ _ _ _ _ _ _ _ _ _ _ _ _ _ _ _ _ _ _ _ _ _ _ _ _ _ _ _ _ _ _ _ _ _ _ _ _ _ _ _ _ _ _ _ _ _ _ _ _ _ _ _ _ _ _ _ _ _ _ _ _ ?_
            intro x55 x56 x57 x58 x59 x60 x61 x62 x63 x64 x65 x66 x67 x68 x69 x70 x71 x72 x73 x74 x75 x76 x77 wE hE
            have HE6 := Lib.hid hE
            clear hE
            refine NoPanic.normal ?_
            go_wp2_with fail
            go_meet
            exact ⟨by simp [hm], HE6.out⟩
          · refine open_out M rb bk of x ⟨ybk, yof, none⟩ YB room an cn ns ab cb b wb r0 e4 e6 hal hbc HNd.out HBd.out RCd.out hns hbl hMc hm (fun _ _ _ _ _ h => h) _ _ _ _ _ _ _ _ _ _ _ _ _ _ _ _ _ _ _ _ _ _ _ _ _ _ _ _ _ _ _ _ _ _ _ _ _ _ _ _ _ _ _ _ _ _ _ _ _ _ _ _ _ _ _ _ _ _ _ _ _ _ _ _ _ _ _ _ _ _ _ _ _ _ _ _ _ _ _ _ _ _ _ _ _ _ _ _ _ _ _ _ _ _ _ _ _ _ _ _ _ _ _ _ _ _ _ _ _ _ _ _ _ _ _ _ _ _ _ _ _ _ _ _ _ _ _ _ _ _ _ _ _ _ _ _ _ _ _ _ _ _ _ _ _ _ _ _ _ _ _ _ _ _ _ _ _ _ _ _ _ _ _ _ _ _ _ _ _ _ _ _ _ _ _ _ _ _ _ _ _ _ _ ?_
            intro x55 x56 x57 x58 x59 x60 x61 x62 x63 x64 x65 x66 x67 x68 x69 x70 x71 x72 x73 x74 x75 x76 x77 wE hE
            have HE6 := Lib.hid hE
            clear hE
            refine NoPanic.normal ?_
            go_wp2_with fail
            go_meet
            exact ⟨by simp [hm], HE6.out⟩
      case rest =>
        obtain ⟨rfl, hbd⟩ := hcut
        have hsd := hbd.size
        have td : wb.grownBy wc none := ⟨hbd.os, hbd.tape, hbd.output, hbd.size, fun i hi _ => hbd.block i hi⟩
        have tb : W.grownBy wb none := ⟨HBc.out.os, HBc.out.tape, HBc.out.output, HBc.out.size, fun i hi _ => HBc.out.block i hi⟩
        have hRd : RpW M rb ybk yof x y YB wc room := (HR.out.still tb (fun q e => by cases e)).still td (fun q e => by cases e)
        have hEd : ExR rb M wc bk of k s nn op' (.slice an ns.length cn) (.slice aa a.len ca) (.slice ab b.len cb) (.slice ac c.len cc) ns a b c := HEc.out.still td (fun q e => by cases e) (by omega)
        have h6d := (hbd.block W.heap.size (by omega)).trans H6c.out
        have tWd : W.grownBy wc (some rb) := grow_two (tb.trans td) (fun q e => by cases e)
        obtain ⟨o2, ho2⟩ : ∃ o2, ((op && !decide (x ∈ ns)) && !bindsX x b) = o2 := ⟨_, rfl⟩
        rw [ho2]
        have HO2 := Lib.hid ho2
        have HO := Lib.hid (show o2 = true → op = true from fun h => by
          rw [← ho2] at h
          simp only [Bool.and_eq_true] at h
          exact h.1.1)
        have HEd := Lib.hid hEd
        obtain ⟨_, _, i0, i1, i2, i3, i4, i5, i6, i7, _⟩ := hEd
        have hald : bk < wc.heap.size := by omega
        have HRd := Lib.hid hRd
        have H6d := Lib.hid h6d
        have HWd := Lib.hid tWd
        have HGa := Lib.hid (fxv_clone HEd.out.ex.a)
        clear ho2 hbd td tb hRd h6d tWd r0 e4 e6 hMc
        go_wp2_with fail
        generalize hw7 : World.alloc wc _ = w7
        have h77 : w7.heap[wc.heap.size]? = some (.cells #[.int .i64 k, .string (bt s), .int .i64 nn, .int .i64 op', .slice an ns.length cn, .slice aa a.len ca, .slice ab b.len cb, .slice ac c.len cc] 27 (0, 0)) := by
          rw [← hw7]; exact World.alloc_heap_new wc _
        have t7 : wc.grownBy w7 none := by rw [← hw7]; exact grown_of_below (below_alloc' wc _) (Nat.le_refl _)
        have hs7 : w7.heap.size = wc.heap.size + 1 := by rw [← hw7]; simp
        clear hw7
        have hlB : W.heap.size < wc.heap.size := by omega
        have hP7 : CpW M rb ybk yof x y YB W w7 room W.heap.size wc.heap.size bk of k s nn op' (.slice an ns.length cn) (.slice aa a.len ca) (.slice ab b.len cb) (.slice ac c.len cc) ns a b c (.slice an ns.length cn) (.slice aa a.len ca) (.slice ab b.len cb) (.slice ac c.len cc) :=
          ⟨HRd.out.still t7 (fun q e => by cases e), hrbW, hbkW, Nat.le_refl _, hlB, HEd.out.still t7 (fun q e => by cases e) (by omega), (t7.block _ (by omega) (by simp)).trans H6d.out, h77, grow_two (HWd.out.trans (show wc.grownBy w7 (some rb) from ⟨t7.os, t7.tape, t7.output, t7.size, fun i hi _ => t7.block i hi (by simp)⟩)) (fun q e => .inl (Option.some.inj e).symm)⟩
        generalize wc.heap.size = B7 at *
        have hMB : M ≤ B7 := by omega
        have HP7 := Lib.hid hP7
        clear t7 h77 i0 i1 i2 i3 i4 i5 i6 i7 hP7 HEd HRd H6d HWd
        refine (clone_str an ns.length cn (ns.map fun s => Value.string (bt s)) w7 (by simp) hns (nsv_clone HP7.out.ex.ex.ns) (by intro u hu; obtain ⟨t, _, rfl⟩ := List.mem_map.1 hu; rfl)).mono ?_
        rintro e w8 ⟨v8, rfl, hown8, hb8⟩
        have hN8 := nsv_row (ok' := Amid M (B7 + 1) w8.heap.size) hown8 (fun g h1 h2 => .inr ⟨by omega, h2⟩)
        obtain ⟨a8, c8, rfl⟩ := hN8.slice
        have t8 := grown_of_below hb8 (Nat.le_refl _)
        have hP8 := HP7.out.still t8 (fun q e => by cases e)
        have k8 := cell_of hP8.h7 4 _ rfl
        have f8 := frozen_of hP8.h7 4
        have hs8 := t8.size
        have HP8 := Lib.hid hP8
        have HN8 := Lib.hid hN8
        clear hown8 hb8 t8 hP8 hN8
        go_upto_region 9 with fail
        generalize hw9 : World.setCell w8 _ _ = w9
        have hP9 := HP8.out.turn4 (.slice a8 ns.length c8)
        have t9 := mz_set w8 B7 4 (.slice a8 ns.length c8)
        rw [hw9] at hP9 t9
        clear hw9 k8 f8
        have hs9 := t9.size
        have hN9 := HN8.out.keep (amid_wide t9 (lo' := B7 + 1) (hi' := w9.heap.size) (fun q e => by cases e; exact ⟨hMB, .inl (Nat.lt_succ_self _)⟩) (Nat.le_refl _) hs9 (by omega) (Nat.le_refl _))
        have i5 := hP9.ex.c5
        have k9 := cell_of hP9.h7 5 _ rfl
        have f9 := frozen_of hP9.h7 5
        have HP9 := Lib.hid hP9
        have HN9 := Lib.hid hN9
        have HGa := Lib.hid (fxv_clone hP9.ex.ex.a)
        obtain ⟨csa, hra, hla, h1a, hja⟩ := HGa.out
        have HRa := Lib.hid (And.intro hra (And.intro hla (And.intro h1a hja)))
        have hal : a.len ≤ 1048576 := by
          have h1 := (parts a b c).len_le
          have h2 := parts_len a b c
          omega
        clear hP9 hN9 t9 HGa hra hla h1a hja
        go_wp2_with fail
        refine (clone_ex aa a.len ca csa w9 HRa.out.2.1 hal HRa.out.2.2.2 HRa.out.2.2.1).mono ?_
        rintro e w10 ⟨v10, rfl, hown10, hb10⟩
        have t10 := grown_of_below hb10 (Nat.le_refl _)
        have hs10 := t10.size
        have hMw9 : M ≤ w9.heap.size := by omega
        obtain ⟨ad1, cap1, rfl, hrow1⟩ := RowV.start (M := M) (by omega) hown10 (HRa.out.1.keep (show Keep (Old M) (Old M) w9 w10 from fun g hg => ⟨hg, fun o => World.cell?_of_block (w := w9) (w' := w10) (a := ⟨g, o, none⟩) (t10.block g (by have : g < M := hg; omega) (by simp))⟩))
        have hP10 := HP9.out.still t10 (fun q e => by cases e)
        have k10 := cell_of hP10.h7 5 _ rfl
        have f10 := frozen_of hP10.h7 5
        have HP10 := Lib.hid hP10
        have HN10 := Lib.hid (HN9.out.keep (amid_wide t10 (lo' := B7 + 1) (hi' := w9.heap.size) (fun q e => by cases e) (Nat.le_refl _) (Nat.le_refl _) (by omega) (Nat.le_refl _)))
        have HW10 := Lib.hid hrow1
        clear hown10 hb10 t10 hP10 hrow1 i5 k9 f9
        go_upto_region 10 with fail
        generalize hw11 : World.setCell w10 _ _ = w11
        have hP11 := HP10.out.turn5 (.slice ad1 a.len cap1)
        have t11 := mz_set w10 B7 5 (.slice ad1 a.len cap1)
        rw [hw11] at hP11 t11
        have hs11 := t11.size
        have i5 := hP11.ex.c5
        have HP11 := Lib.hid hP11
        have HN11 := Lib.hid (HN10.out.keep (amid_wide t11 (lo' := B7 + 1) (hi' := w9.heap.size) (fun q e => by cases e; exact ⟨hMB, .inl (Nat.lt_succ_self _)⟩) hs10 (Nat.le_refl _) (by omega) (Nat.le_refl _)))
        have HW11 := Lib.hid (HW10.out.grow t11 (fun q e => by cases e; exact ⟨hMB, by omega⟩))
        obtain ⟨lo1, hlo1⟩ : ∃ lo1, w9.heap.size = lo1 := ⟨_, rfl⟩
        rw [hlo1] at HW11 HN11
        clear hw11 hP11 t11 k10 f10
        have hlow : B7 < lo1 := by omega
        have hlo11 : lo1 ≤ w11.heap.size := by omega
        go_wp2_with fail
        go_loopw [98] (fun i wr => ∃ (f1 f2 : Fx) (rm : Int), a = f1.app f2 ∧ i = .int .i64 f1.len ∧ CpW M rb ybk yof x y YB W wr rm W.heap.size B7 bk of k s nn op' (.slice an ns.length cn) (.slice aa a.len ca) (.slice ab b.len cb) (.slice ac c.len cc) ns a b c (.slice a8 ns.length c8) (.slice ad1 a.len cap1) (.slice ab b.len cb) (.slice ac c.len cc) ∧ NsV (Amid M (B7 + 1) lo1) wr (.slice a8 ns.length c8) ns ∧ RowV M lo1 27 0 wr ad1 cap1 a.len (repF x y false o2 f1) f2 ∧ room - needF YB op f1 ≤ rm ∧ rm ≤ room ∧ lo1 ≤ wr.heap.size) (fun i _ => a.len - (intOf i).toNat)
        case atStart => exact ⟨.nil, a, room, rfl, rfl, HP11.out, HN11.out, HW11.out, by rw [needF_nil]; omega, Int.le_refl _, hlo11⟩
        case round =>
          obtain ⟨f1, f2, rm, hf, rfl, hP, hN, hRw, hr1, hr2, hlw⟩ := hrel
          have HFe := Lib.hid hf
          have HP := Lib.hid hP
          have HN := Lib.hid hN
          have HRw := Lib.hid hRw
          have hfl := congrArg Fx.len hf
          rw [Fx.len_app] at hfl
          have i5r := hP.ex.c5
          have k5r := cell_of hP.h7 5 _ rfl
          clear hf hP hN hRw i5
          cases f2 with
          | nil =>
            have hlt : ¬ f1.len < a.len := by simp only [Fx.len] at hfl; omega
            clear hfl
            obtain rfl : f1 = a := by
              have := HFe.out
              rw [Fx.app_nil] at this
              exact this.symm
            have i6 := HP.out.ex.c6
            have k6 := cell_of HP.out.h7 6 _ rfl
            have f6 := frozen_of HP.out.h7 6
            have hrm2 : room - needF YB op f1 ≤ rm := hr1
            obtain ⟨hi2, hhi2⟩ : ∃ hi2, wr.heap.size = hi2 := ⟨_, rfl⟩
            have hlw2 : lo1 ≤ hi2 := by omega
            have HN2 := Lib.hid (show NsV (Amid M (B7 + 1) hi2) wr (.slice a8 ns.length c8) ns from HN.out.keep (keep_le wr fun g hg => by
              rcases hg with hg | hg
              · exact .inl hg
              · exact .inr ⟨hg.1, by omega⟩))
            have HA2 := Lib.hid (show FxV (Amid M (B7 + 1) hi2) wr 0 (.slice ad1 f1.len cap1) (repF x y false o2 f1) from HRw.out.value fun g hg => by
              rw [hhi2] at hg
              rcases hg with hg | hg
              · exact .inl hg
              · exact .inr ⟨by omega, hg.2⟩)
            have HGb := Lib.hid (fxv_clone HP.out.ex.ex.b)
            obtain ⟨csb, hrb, hlb, h1b, hjb⟩ := HGb.out
            have HRb := Lib.hid (And.intro hrb (And.intro hlb (And.intro h1b hjb)))
            clear HGb hrb hlb h1b hjb HN HRw HFe hr1 i5r k5r HRa HN9 HN10 HW10 HN11 HW11 HP7 HN8 HP8 HP9 HP10 HP11
            go_wp2_with fail
            refine (clone_bind ab b.len cb csb wr HRb.out.2.1 hbl HRb.out.2.2.2 HRb.out.2.2.1).mono ?_
            rintro e w20 ⟨v20, rfl, hown20, hb20⟩
            have t20 := grown_of_below hb20 (Nat.le_refl _)
            have hs20 := t20.size
            have hMwr : M ≤ wr.heap.size := HP.out.rp.hMW
            obtain ⟨ad2, cap2, rfl, hrow2⟩ := RowV.start (M := M) (by omega) hown20 (HRb.out.1.keep (show Keep (Old M) (Old M) wr w20 from fun g hg => ⟨hg, fun o => World.cell?_of_block (w := wr) (w' := w20) (a := ⟨g, o, none⟩) (t20.block g (by have : g < M := hg; omega) (by simp))⟩))
            have hP20 := HP.out.still t20 (fun q e => by cases e)
            have k20 := cell_of hP20.h7 6 _ rfl
            have f20 := frozen_of hP20.h7 6
            have HP20 := Lib.hid hP20
            have hkp := amid_wide t20 (M := M) (lo := B7 + 1) (lo' := B7 + 1) (hi := hi2) (hi' := hi2) (fun q e => by cases e) (by omega) (Nat.le_refl _) hMwr (Nat.le_refl _)
            have HN20 := Lib.hid (HN2.out.keep hkp)
            have HA20 := Lib.hid (HA2.out.keep hkp)
            have HW20 := Lib.hid hrow2
            clear hown20 hb20 t20 hP20 hrow2 i6 k6 f6 hkp
            go_upto_region 16 with fail
            generalize hw21 : World.setCell w20 _ _ = w21
            have hP21 := HP20.out.turn6 (.slice ad2 b.len cap2)
            have t21 := mz_set w20 B7 6 (.slice ad2 b.len cap2)
            rw [hw21] at hP21 t21
            have hs21 := t21.size
            have i6 := hP21.ex.c6
            have HP21 := Lib.hid hP21
            have hlB2 : B7 < wr.heap.size := by omega
            have hkp := amid_wide t21 (M := M) (lo := B7 + 1) (lo' := B7 + 1) (hi := hi2) (hi' := hi2) (fun q e => by cases e; exact ⟨hMB, .inl (Nat.lt_succ_self _)⟩) (by omega) (Nat.le_refl _) (by omega) (Nat.le_refl _)
            have HN21 := Lib.hid (HN20.out.keep hkp)
            have HA21 := Lib.hid (HA20.out.keep hkp)
            have HW21 := Lib.hid (HW20.out.grow t21 (fun q e => by cases e; exact ⟨hMB, hlB2⟩))
            rw [hhi2] at HW21
            clear hw21 hP21 t21 k20 f20 hkp
            have hlow2 : B7 < hi2 := by omega
            have hlo21 : hi2 ≤ w21.heap.size := by omega
            go_wp2_with fail
            go_loopw [126] (fun i wr => ∃ (d1 d2 : Fx) (rq : Int), b = d1.app d2 ∧ i = .int .i64 d1.len ∧ CpW M rb ybk yof x y YB W wr rq W.heap.size B7 bk of k s nn op' (.slice an ns.length cn) (.slice aa f1.len ca) (.slice ab b.len cb) (.slice ac c.len cc) ns f1 b c (.slice a8 ns.length c8) (.slice ad1 f1.len cap1) (.slice ad2 b.len cap2) (.slice ac c.len cc) ∧ NsV (Amid M (B7 + 1) hi2) wr (.slice a8 ns.length c8) ns ∧ FxV (Amid M (B7 + 1) hi2) wr 0 (.slice ad1 f1.len cap1) (repF x y false o2 f1) ∧ RowV M hi2 38 1 wr ad2 cap2 b.len (repF x y false o2 d1) d2 ∧ room - needF YB op f1 - needF YB op d1 ≤ rq ∧ rq ≤ room ∧ hi2 ≤ wr.heap.size) (fun i _ => b.len - (intOf i).toNat)
            case atStart => exact ⟨.nil, b, rm, rfl, rfl, HP21.out, HN21.out, HA21.out, HW21.out, by rw [needF_nil]; omega, hr2, hlo21⟩
            case round =>
              clear hlt
              obtain ⟨d1, d2, rq, hf, rfl, hP2, hN, hA, hRw, hq1, hq2, hlw⟩ := hrel
              have HFe := Lib.hid hf
              have HQ2 := Lib.hid hP2
              have HN := Lib.hid hN
              have HA := Lib.hid hA
              have HRw := Lib.hid hRw
              have hfl := congrArg Fx.len hf
              rw [Fx.len_app] at hfl
              have i6r := hP2.ex.c6
              have k6r := cell_of hP2.h7 6 _ rfl
              clear hf hP2 hN hA hRw i6
              cases d2 with
              | nil =>
                have hlt : ¬ d1.len < b.len := by simp only [Fx.len] at hfl; omega
                clear hfl
                obtain rfl : d1 = b := by
                  have := HFe.out
                  rw [Fx.app_nil] at this
                  exact this.symm
                have hkw : Keep (Amid M (B7 + 1) hi2) (Amid M (B7 + 1) wr.heap.size) wr wr := keep_le wr fun g hg => by
                  rcases hg with hg | hg
                  · exact .inl hg
                  · exact .inr ⟨hg.1, by omega⟩
                have HN3 := Lib.hid (HN.out.keep hkw)
                have HA3 := Lib.hid (HA.out.keep hkw)
                have HB3 := Lib.hid (show FxV (Amid M (B7 + 1) wr.heap.size) wr 1 (.slice ad2 d1.len cap2) (repF x y false o2 d1) from HRw.out.value fun g hg => by
                  rcases hg with hg | hg
                  · exact .inl hg
                  · exact .inr ⟨by omega, hg.2⟩)
                have Hq1 := Lib.hid hq1
                clear HN HA HRw HFe hq1 i6r k6r hkw
                go_upto_region 21 with fail
                refine wp_code (c' := cpR21) (by kernel_rfl) ?_
                exact copy_tail M rb ybk yof x y YB n op HC.out o2 HO.out bk of k s nn op' an cn aa ca ab cb ac cc ns f1 d1 c W wr room rq B7 a8 c8 ad1 cap1 ad2 cap2 hMW hrbW hlB hMB HQ2.out HN3.out HA3.out HB3.out
                  (by unfold repE; rw [HQ.out, ← HO2.out, binds_mem]; rfl) hn hce hcn hrm Hq1.out hq2 _ _ _ _ _ _ _ _ _ _ _ _ _ _ _ _ _ _ _ _ _ _ _ _ _ _ _ _ _ _ _ _ _ _ _ _ _ _ _ _ _ _ _ _ _ _ _ _ _ _ _ _ _ _ _ _ _ _ _ _ _ _ _ _ _ _ _ _ _ _ _ _ _ _ _ _ _ _ _ _ _ _ _ _ _ _ _ _ _ _ _ _ _ _ _ _ _ _ _ _ _ _ _ _ _ _ _ _ _ _ _ _ _ _ _ _ _ _ _ _ _ _ _ _ _ _ _ _ _ _ _ _ _ _ _ _ _ _ _ _ _ _ _ _ _ _ _ _ _ _ _ _ _ _ _ _ _ _ _ _ _ _ _ _ _ _ _ _ _ _ _ _ _ _ _ _ _ _ _ _ _ _ (by assumption)
              | cons p k1 s1 n1 op1 ns1 xa xb xc r =>
                have hlt : d1.len < b.len := by simp only [Fx.len] at hfl; omega
                obtain ⟨bb, oo, xn, va, vb, vc, e, hbb, hlc, hcm, _, hp, c0, c1, c2, c3, c4, c5, c6, c7, hx⟩ := fx_at HQ2.out.ex.ex.b HFe.out
                subst e
                cases p with
                | no => exact absurd (show (1 : Nat) = 0 from hp) (by decide)
                | alt k0 s0 n0 ns0 => exact absurd hp.1 (by decide)
                | bind t =>
                  obtain ⟨g, e, hst⟩ := HRw.out.cons
                  subst e
                  have hbbM : bb < M := hbb
                  have hMr := HQ2.out.rp.hM
                  have hBr := HQ2.out.lt
                  have hxe : ExR rb M wr bb (oo + d1.len * 9 + 1) k1 s1 n1 op1 xn va vb vc ns1 xa xb xc := ⟨show bb < wr.heap.size by omega, by omega, c0, c1, c2, c3, c4, c5, c6, c7, hx⟩
                  have hcn1 : (parts xa xb xc).count < n ∧ (parts xa xb xc).count ≤ 131072 ∧ costE ns1 xa xb xc ≤ 1048576 := by
                    have h1 := congrArg Fx.count HFe.out
                    have h2 := congrArg Fx.cost HFe.out
                    rw [Fx.count_app] at h1
                    rw [cost_app] at h2
                    have h3 := parts_count f1 b c
                    have h4 : (Fx.cons (.bind t) k1 s1 n1 op1 ns1 xa xb xc r).cost = (Pre.bind t).cost + costE ns1 xa xb xc + r.cost := rfl
                    have h5 := parts_count xa xb xc
                    have h6 : (Fx.cons (.bind t) k1 s1 n1 op1 ns1 xa xb xc r).count = 1 + xa.count + xb.count + xc.count + r.count := by simp only [Fx.count]; omega
                    have h7 : costE ns f1 b c = 1 + ns.length + b.len + (f1.cost + b.cost + c.cost) := rfl
                    omega
                  have hnd : (need YB o2 (parts xa xb xc).count : Int) ≤ rq ∧ rq - need YB o2 (parts xa xb xc).count ≥ room - needF YB op f1 - needF YB op (d1.app (.cons (.bind t) k1 s1 n1 op1 ns1 xa xb xc .nil)) := by
                    have h1 := need_le (YB := YB) HO.out (Nat.le_refl (parts xa xb xc).count)
                    have h2 := needF_app YB op d1 (.cons (.bind t) k1 s1 n1 op1 ns1 xa xb xc .nil)
                    rw [needF_one] at h2
                    have h3 : needF YB op b = needF YB op d1 + needF YB op (.cons (.bind t) k1 s1 n1 op1 ns1 xa xb xc r) := by
                      have := needF_app YB op d1 (.cons (.bind t) k1 s1 n1 op1 ns1 xa xb xc r)
                      rw [← HFe.out] at this
                      exact this
                    have h4 : needF YB op (.cons (.bind t) k1 s1 n1 op1 ns1 xa xb xc r) = need YB op (parts xa xb xc).count + needF YB op r := by
                      have := needF_app YB op (.cons (.bind t) k1 s1 n1 op1 ns1 xa xb xc .nil) r
                      rw [needF_one] at this
                      exact this
                    have h5 := needF_le (YB := YB) (op := op) (a := f1) (b := b) (c := c)
                    omega
                  have HXe := Lib.hid hxe
                  have HCn := Lib.hid hcn1
                  have HNd := Lib.hid hnd
                  have hgl := hst.low
                  have HSt := Lib.hid hst
                  have HB1 := Lib.hid (And.intro hlc hcm)
                  clear hxe hcn1 hnd hst hp c0 c1 c2 c3 c4 c5 c6 c7 hx hfl hbb hlc hcm
                  have HX := Lib.hid (show ∀ (w13 wE : World) (rm13 : Int), wr.drew.grownBy w13 (some rb) → w13.grownBy wE (some g) → CpW M rb ybk yof x y YB W w13 rm13 W.heap.size B7 bk of k s nn op' (.slice an ns.length cn) (.slice aa f1.len ca) (.slice (some ⟨bb, oo, none⟩) b.len cb) (.slice ac c.len cc) ns f1 b c (.slice a8 ns.length c8) (.slice ad1 f1.len cap1) (.slice (some ⟨g, 0, none⟩) b.len cap2) (.slice ac c.len cc) → CpW M rb ybk yof x y YB W wE rm13 W.heap.size B7 bk of k s nn op' (.slice an ns.length cn) (.slice aa f1.len ca) (.slice (some ⟨bb, oo, none⟩) b.len cb) (.slice ac c.len cc) ns f1 b c (.slice a8 ns.length c8) (.slice ad1 f1.len cap1) (.slice (some ⟨g, 0, none⟩) b.len cap2) (.slice ac c.len cc) → RowSt M hi2 38 1 wE g cap2 b.len ((repF x y false o2 d1).app ((repE x y o2 k1 s1 n1 op1 ns1 xa xb xc).fx (.bind t) .nil)) r → rq - need YB o2 (parts xa xb xc).count ≤ rm13 → rm13 ≤ rq →
                      ∃ (g1' g2' : Fx) (rs' : Int), b = g1'.app g2' ∧ g1'.len = d1.len + 1 ∧ CpW M rb ybk yof x y YB W wE rs' W.heap.size B7 bk of k s nn op' (.slice an ns.length cn) (.slice aa f1.len ca) (.slice (some ⟨bb, oo, none⟩) b.len cb) (.slice ac c.len cc) ns f1 b c (.slice a8 ns.length c8) (.slice ad1 f1.len cap1) (.slice (some ⟨g, 0, none⟩) b.len cap2) (.slice ac c.len cc) ∧ NsV (Amid M (B7 + 1) hi2) wE (.slice a8 ns.length c8) ns ∧ FxV (Amid M (B7 + 1) hi2) wE 0 (.slice ad1 f1.len cap1) (repF x y false o2 f1) ∧ RowV M hi2 38 1 wE (some ⟨g, 0, none⟩) cap2 b.len (repF x y false o2 g1') g2' ∧ room - needF YB op f1 - needF YB op g1' ≤ rs' ∧ rs' ≤ room ∧ hi2 ≤ wE.heap.size from fun w13 wE rm13 hg tE hp13 hpE hput h1 h2 => by
                    have hsE := tE.size
                    have hs13 := hg.size
                    have hk1 := amid_wide (w := wr.drew) hg (M := M) (lo := B7 + 1) (lo' := B7 + 1) (hi := hi2) (hi' := hi2) (fun q e => by cases e; exact ⟨hMr, .inl (by omega)⟩) hlw (Nat.le_refl _) HQ2.out.rp.hMW (Nat.le_refl _)
                    have hk2 := amid_wide tE (M := M) (lo := B7 + 1) (lo' := B7 + 1) (hi := hi2) (hi' := hi2) (fun q e => by cases e; exact ⟨by omega, .inr hgl⟩) (Nat.le_trans hlw hs13) (Nat.le_refl _) hp13.rp.hMW (Nat.le_refl _)
                    have hkd : Keep (Amid M (B7 + 1) hi2) (Amid M (B7 + 1) hi2) wr wr.drew := fun g hg => ⟨hg, fun _ => rfl⟩
                    have hnd := HNd.out.2
                    refine ⟨d1.app (.cons (.bind t) k1 s1 n1 op1 ns1 xa xb xc .nil), r, rm13, by rw [Fx.app_app]; exact HFe.out, by rw [Fx.len_app]; rfl, hpE, ((HN.out.keep hkd).keep hk1).keep hk2, ((HA.out.keep hkd).keep hk1).keep hk2, .inr ⟨g, rfl, ?_⟩, by omega, by omega, Nat.le_trans hlw (Nat.le_trans hs13 hsE)⟩
                    rw [repF_app, repF_cons, repF_nil, show (o2 && seesP x false (.bind t)) = o2 by simp [seesP]]
                    exact hput)
                  go_wp2_with fail
                  refine wp_code (c' := cpR19) (by kernel_rfl) ?_
                  refine Code.wp_mono NoPanic.imp ?_
                  refine bind_round M rb ybk yof x y YB n op o2 HC.out HO.out W wr rq _ B7 bk of k s nn op' _ _ _ _ ns f1 b c _ _ _ bb oo g cap2 hi2 d1 r t k1 s1 n1 op1 ns1 xa xb xc (repF x y false o2 d1) (repF_len _ _ _ _ _) HQ2.out HSt.out hlow2 xn va vb vc HXe.out hbbM HCn.out HNd.out.1 hlt hbl HB1.out.1 HB1.out.2 (fun _ _ _ _ _ h => h) _ _ _ _ _ _ _ _ _ _ _ _ _ _ _ _ _ _ _ _ _ _ _ _ _ _ _ _ _ _ _ _ _ _ _ _ _ _ _ _ _ _ _ _ _ _ _ _ _ _ _ _ _ _ _ _ _ _ _ _ _ _ _ _ _ _ _ _ _ _ _ _ _ _ _ _ _ _ _ _ _ _ _ _ _ _ _ _ _ _ _ _ _ _ _ _ _ _ _ _ _ _ _ _ _ _ _ _ _ _ _ _ _ _ _ _ _ _ _ _ _ _ _ _ _ _ _ _ _ _ _ _ _ _ _ _ _ _ _ _ _ _ _ _ _ _ _ _ _ _ _ _ _ _ _ _ _ _ _ _ _ _ _ _ _ _ _ _ _ _ _ _ _ _ _ _ _ _ _ _ _ ?_
                  intro x129 x130 x131 x132 x133 x134 x135 x136 x137 x138 x139 x140 x141 x142 x143 w13 wE rm13 q1 q2 q3 q4 q5 q6 q7
                  obtain ⟨g1', g2', rs', e1, e2, e3⟩ := HX.out w13 wE rm13 q1 q2 q3 q4 q5 q6 q7
                  have E3 := Lib.hid e3
                  have E1 := Lib.hid e1
                  have E2 := Lib.hid e2
                  clear q1 q2 q3 q4 q5 q6 q7 e1 e2 e3
                  refine NoPanic.normal ?_
                  go_wp2_with fail
                  go_roundw
                  case rel => exact ⟨g1', g2', rs', E1.out, by rw [E2.out]; go_num, E3.out⟩
                  case measure => simp [intOf]; omega
          | cons p k1 s1 n1 op1 ns1 xa xb xc r =>
            have hlt : f1.len < a.len := by simp only [Fx.len] at hfl; omega
            obtain ⟨bb, oo, xn, va, vb, vc, e, hbb, hlc, hcm, _, hp, c0, c1, c2, c3, c4, c5, c6, c7, hx⟩ := fx_at HP.out.ex.ex.a HFe.out
            subst e
            cases p with
            | bind t => exact absurd hp.1 (by decide)
            | alt k0 s0 n0 ns0 => exact absurd hp.1 (by decide)
            | no =>
              obtain ⟨g, e, hst⟩ := HRw.out.cons
              subst e
              have hbbM : bb < M := hbb
              have hMr := HP.out.rp.hM
              have hBr := HP.out.lt
              have hxe : ExR rb M wr bb (oo + f1.len * 8) k1 s1 n1 op1 xn va vb vc ns1 xa xb xc := ⟨show bb < wr.heap.size by omega, by omega, c0, c1, c2, c3, c4, c5, c6, c7, hx⟩
              have hcn1 : (parts xa xb xc).count < n ∧ (parts xa xb xc).count ≤ 131072 ∧ costE ns1 xa xb xc ≤ 1048576 := by
                have h1 := congrArg Fx.count HFe.out
                have h2 := congrArg Fx.cost HFe.out
                rw [Fx.count_app] at h1
                rw [cost_app] at h2
                have h3 := parts_count a b c
                have h4 : (Fx.cons .no k1 s1 n1 op1 ns1 xa xb xc r).cost = Pre.no.cost + costE ns1 xa xb xc + r.cost := rfl
                have h5 := parts_count xa xb xc
                have h6 : (Fx.cons .no k1 s1 n1 op1 ns1 xa xb xc r).count = 1 + xa.count + xb.count + xc.count + r.count := by simp only [Fx.count]; omega
                have h7 : costE ns a b c = 1 + ns.length + b.len + (a.cost + b.cost + c.cost) := rfl
                omega
              have hnd : (need YB o2 (parts xa xb xc).count : Int) ≤ rm ∧ rm - need YB o2 (parts xa xb xc).count ≥ room - needF YB op (f1.app (.cons .no k1 s1 n1 op1 ns1 xa xb xc .nil)) := by
                have h1 := need_le (YB := YB) HO.out (Nat.le_refl (parts xa xb xc).count)
                have h2 := needF_app YB op f1 (.cons .no k1 s1 n1 op1 ns1 xa xb xc .nil)
                rw [needF_one] at h2
                have h3 : needF YB op a = needF YB op f1 + needF YB op (.cons .no k1 s1 n1 op1 ns1 xa xb xc r) := by
                  have := needF_app YB op f1 (.cons .no k1 s1 n1 op1 ns1 xa xb xc r)
                  rw [← HFe.out] at this
                  exact this
                have h4 : needF YB op (.cons .no k1 s1 n1 op1 ns1 xa xb xc r) = need YB op (parts xa xb xc).count + needF YB op r := by
                  have := needF_app YB op (.cons .no k1 s1 n1 op1 ns1 xa xb xc .nil) r
                  rw [needF_one] at this
                  exact this
                have h5 := needF_le (YB := YB) (op := op) (a := a) (b := b) (c := c)
                omega
              have HXe := Lib.hid hxe
              have HCn := Lib.hid hcn1
              have HNd := Lib.hid hnd
              have hgl := hst.low
              have HSt := Lib.hid hst
              have HB1 := Lib.hid (And.intro hlc hcm)
              clear hxe hcn1 hnd hst hp c0 c1 c2 c3 c4 c5 c6 c7 hx hfl hbb hlc hcm
              have HX := Lib.hid (show ∀ (w13 wE : World) (rm13 : Int), wr.drew.grownBy w13 (some rb) → w13.grownBy wE (some g) → CpW M rb ybk yof x y YB W w13 rm13 W.heap.size B7 bk of k s nn op' (.slice an ns.length cn) (.slice (some ⟨bb, oo, none⟩) a.len ca) (.slice ab b.len cb) (.slice ac c.len cc) ns a b c (.slice a8 ns.length c8) (.slice (some ⟨g, 0, none⟩) a.len cap1) (.slice ab b.len cb) (.slice ac c.len cc) → CpW M rb ybk yof x y YB W wE rm13 W.heap.size B7 bk of k s nn op' (.slice an ns.length cn) (.slice (some ⟨bb, oo, none⟩) a.len ca) (.slice ab b.len cb) (.slice ac c.len cc) ns a b c (.slice a8 ns.length c8) (.slice (some ⟨g, 0, none⟩) a.len cap1) (.slice ab b.len cb) (.slice ac c.len cc) → RowSt M lo1 27 0 wE g cap1 a.len ((repF x y false o2 f1).app ((repE x y o2 k1 s1 n1 op1 ns1 xa xb xc).fx .no .nil)) r → rm - need YB o2 (parts xa xb xc).count ≤ rm13 → rm13 ≤ rm →
                  ∃ (g1' g2' : Fx) (rs' : Int), a = g1'.app g2' ∧ g1'.len = f1.len + 1 ∧ CpW M rb ybk yof x y YB W wE rs' W.heap.size B7 bk of k s nn op' (.slice an ns.length cn) (.slice (some ⟨bb, oo, none⟩) a.len ca) (.slice ab b.len cb) (.slice ac c.len cc) ns a b c (.slice a8 ns.length c8) (.slice (some ⟨g, 0, none⟩) a.len cap1) (.slice ab b.len cb) (.slice ac c.len cc) ∧ NsV (Amid M (B7 + 1) lo1) wE (.slice a8 ns.length c8) ns ∧ RowV M lo1 27 0 wE (some ⟨g, 0, none⟩) cap1 a.len (repF x y false o2 g1') g2' ∧ room - needF YB op g1' ≤ rs' ∧ rs' ≤ room ∧ lo1 ≤ wE.heap.size from fun w13 wE rm13 hg tE hp13 hpE hput h1 h2 => by
                have hsE := tE.size
                have hs13 := hg.size
                have hk1 := amid_wide (w := wr.drew) hg (M := M) (lo := B7 + 1) (lo' := B7 + 1) (hi := lo1) (hi' := lo1) (fun q e => by cases e; exact ⟨hMr, .inl (by omega)⟩) hlw (Nat.le_refl _) HP.out.rp.hMW (Nat.le_refl _)
                have hk2 := amid_wide tE (M := M) (lo := B7 + 1) (lo' := B7 + 1) (hi := lo1) (hi' := lo1) (fun q e => by cases e; exact ⟨by omega, .inr hgl⟩) (Nat.le_trans hlw hs13) (Nat.le_refl _) hp13.rp.hMW (Nat.le_refl _)
                have hkd : Keep (Amid M (B7 + 1) lo1) (Amid M (B7 + 1) lo1) wr wr.drew := fun g hg => ⟨hg, fun _ => rfl⟩
                have hnd := HNd.out.2
                refine ⟨f1.app (.cons .no k1 s1 n1 op1 ns1 xa xb xc .nil), r, rm13, by rw [Fx.app_app]; exact HFe.out, by rw [Fx.len_app]; rfl, hpE, ((HN.out.keep hkd).keep hk1).keep hk2, .inr ⟨g, rfl, ?_⟩, by omega, by omega, Nat.le_trans hlw (Nat.le_trans hs13 hsE)⟩
                rw [repF_app, repF_cons, repF_nil, show (o2 && seesP x false .no) = o2 by simp [seesP]]
                exact hput)
              go_wp2_with fail
              refine wp_code (c' := cpR13) (by kernel_rfl) ?_
              refine Code.wp_mono NoPanic.imp ?_
              refine sub_round M rb ybk yof x y YB n op o2 HC.out HO.out W wr rm _ B7 bk of k s nn op' _ _ _ _ ns a b c _ _ _ bb oo g cap1 lo1 f1 r k1 s1 n1 op1 ns1 xa xb xc (repF x y false o2 f1) (repF_len _ _ _ _ _) HP.out HSt.out hlow xn va vb vc HXe.out hbbM HCn.out HNd.out.1 hlt hal HB1.out.1 HB1.out.2 (fun _ _ _ _ _ h => h) _ _ _ _ _ _ _ _ _ _ _ _ _ _ _ _ _ _ _ _ _ _ _ _ _ _ _ _ _ _ _ _ _ _ _ _ _ _ _ _ _ _ _ _ _ _ _ _ _ _ _ _ _ _ _ _ _ _ _ _ _ _ _ _ _ _ _ _ _ _ _ _ _ _ _ _ _ _ _ _ _ _ _ _ _ _ _ _ _ _ _ _ _ _ _ _ _ _ _ _ _ _ _ _ _ _ _ _ _ _ _ _ _ _ _ _ _ _ _ _ _ _ _ _ _ _ _ _ _ _ _ _ _ _ _ _ _ _ _ _ _ _ _ _ _ _ _ _ _ _ _ _ _ _ _ _ _ _ _ _ _ _ _ _ _ _ _ _ _ _ _ _ _ _ _ _ _ _ _ _ _ ?_
              intro x101 x102 x103 x104 x105 x106 x107 x108 x109 x110 x111 x112 x113 w13 wE rm13 q1 q2 q3 q4 q5 q6 q7
              obtain ⟨g1', g2', rs', e1, e2, e3⟩ := HX.out w13 wE rm13 q1 q2 q3 q4 q5 q6 q7
              have E3 := Lib.hid e3
              have E1 := Lib.hid e1
              have E2 := Lib.hid e2
              clear q1 q2 q3 q4 q5 q6 q7 e1 e2 e3
              refine NoPanic.normal ?_
              go_wp2_with fail
              go_roundw
              case rel => exact ⟨g1', g2', rs', E1.out, by rw [E2.out]; go_num, E3.out⟩
              case measure => simp [intOf]; omega
end Go.Proofs.YtfcogjlojfcfkaaGreat
end

section
namespace Go.Proofs.YtfcogjlojfcfkaaGreat
open Go.RowKit Ex0

theorem copy_off (M rb ybk yof : Nat) (x : List UInt8) (y : By) (YB : Nat) (hY : costE y.ns y.a y.b y.c ≤ 1048576) (hY2 : (parts y.a y.b y.c).count ≤ 131072) (n : Nat) : CopyC M rb ybk yof x y YB false n := by
  induction n with
  | zero => intro _ _ _ _ _ _ _ _ _ _ _ _ _ _ _ _ h; omega
  | succ n ih => exact copy_step M rb ybk yof x y YB n false hY hY2 (fun o h => by cases o with | false => exact ih | true => exact absurd (h rfl) (by decide)) (fun h => absurd h (by decide))
theorem copy_on (M rb ybk yof : Nat) (x : List UInt8) (y : By) (YB n : Nat) (hY : costE y.ns y.a y.b y.c ≤ 1048576) (hY2 : (parts y.a y.b y.c).count ≤ 131072) : CopyC M rb ybk yof x y YB true n := by
  induction n with
  | zero => intro _ _ _ _ _ _ _ _ _ _ _ _ _ _ _ _ h; omega
  | succ n ih => exact copy_step M rb ybk yof x y YB n true hY hY2 (fun o _ => by cases o with | false => exact copy_off M rb ybk yof x y YB hY hY2 n | true => exact ih) (fun _ N => copy_off M rb ybk yof x y YB hY hY2 N)
end Go.Proofs.YtfcogjlojfcfkaaGreat
end
