/- core.Size and core.Replace, at every expression that takes no more than an answer may. Bounds on how great it is. -/
import Derived.Test.YtfcogjlojfcfkaaGreatNB
import Derived.Test.YtfcogjlojfcfkaaGreatMY
import Derived.Test.YtfcogjlojfcfkaaGreatMV
section
namespace Go.Proofs.YtfcogjlojfcfkaaGreat
open Go.RowKit Ex0
attribute [local go_sem] bt_size bt_list bt_toList

set_option maxHeartbeats 1000000 in
theorem size_call (k : Int) (s : List UInt8) (nn op : Int) (vn va vb vc : Value) (ns : List (List UInt8)) (a b c : Fx) (W : World) (hx : ExV (Old W.heap.size) W vn va vb vc ns a b c) (hcnt : (parts a b c).count + 1 ≤ 131072)
    (hby : ownBytes ns b c + bytesF (parts a b c) ≤ 2147483647) :
    Calls Tryz.prog 10 #[exV k s nn op vn va vb vc] W fun e w' => e = .returned (.int .i64 (((parts a b c).count : Nat) + 1)) ∧ Below W.heap.size W w' := by
  have HX := Lib.hid hx
  obtain ⟨an, cn, rfl⟩ := hx.ns.slice
  obtain ⟨aa, ca, rfl⟩ := hx.a.slice
  obtain ⟨ab, cb, rfl⟩ := hx.b.slice
  obtain ⟨ac, cc, rfl⟩ := hx.c.slice
  clear hx
  unfold exV
  go_enter Tryz.func10, Tryz.ntmps10
  go_wp2_with fail
  go_at_call 17
  refine (newMeasurer_c _ _).mono ?_
  rintro e w1 ⟨rfl, rfl⟩
  go_wp2_with fail
  go_at_call 19
  obtain ⟨W1, hW1⟩ : ∃ W1, W1 = ((W.alloc (exBox k s nn op (.slice an ns.length cn) (.slice aa a.len ca) (.slice ab b.len cb) (.slice ac c.len cc))).alloc (.map #[] 0)).alloc (.cells #[.int .i64 1048576, .map (some (W.heap.size + 1)), .slice none 0 0] 78) := ⟨_, rfl⟩
  have hbx : Below (W.heap.size + 1) (W.alloc (exBox k s nn op (.slice an ns.length cn) (.slice aa a.len ca) (.slice ab b.len cb) (.slice ac c.len cc))) W1 := by
    subst hW1
    exact ((Below.refl _ _).alloc (by simp) _).alloc (by simp <;> omega) _
  have hb0 : Below W.heap.size W W1 := by
    subst hW1
    exact ((below_alloc' _ _).alloc (by simp) _).alloc (by simp <;> omega) _
  have hmz : MzAt W1 (W.heap.size + 1 + 1) (W.heap.size + 1) 1048576 := by
    subst hW1
    have := World.alloc_heap_new ((W.alloc (exBox k s nn op (.slice an ns.length cn) (.slice aa a.len ca) (.slice ab b.len cb) (.slice ac c.len cc))).alloc (.map #[] 0)) (.cells #[.int .i64 1048576, .map (some (W.heap.size + 1)), .slice none 0 0] 78)
    unfold MzAt
    simpa using this
  have hkb : W1.heap[W.heap.size + 1]? = some (.map #[] 0) := by
    subst hW1
    refine (Below.heap_alloc _ _ _ (by simp)).trans ?_
    have := World.alloc_heap_new (W.alloc (exBox k s nn op (.slice an ns.length cn) (.slice aa a.len ca) (.slice ab b.len cb) (.slice ac c.len cc))) (.map #[] 0)
    simpa using this
  have hsz : W1.heap.size = W.heap.size + 1 + 1 + 1 := by subst hW1; simp
  obtain ⟨c0, c1, c2, c3, c4, c5, c6, c7⟩ := exBox_cell (Nat.lt_succ_self _) hbx
  have hex : ExL (W.heap.size + 1) W1 W.heap.size 0 k s nn op (.slice an ns.length cn) (.slice aa a.len ca) (.slice ab b.len cb) (.slice ac c.len cc) ns a b c :=
    ⟨Nat.lt_succ_self _, c0, c1, c2, c3, c4, c5, c6, c7, HX.out.keep (fun q hq => ⟨Nat.lt_succ_of_lt hq, fun o => hb0.cell (p := ⟨q, o, none⟩) hq⟩)⟩
  have hcon := measure_any (W.heap.size + 1) (W.heap.size + 1 + 1) (W.heap.size + 1) W.heap.size 0 1048576 k s nn op _ _ _ _ ns a b c W1 _ rfl ⟨by omega, by omega, by omega, hkb, by omega, hcnt, by omega, by omega⟩ hmz hex
  rw [hW1] at hcon
  refine hcon.mono ?_
  rw [← hW1]
  clear hcon hex c0 c1 c2 c3 c4 c5 c6 c7 hmz hkb hbx hW1
  rintro e w2 ⟨⟨x0, x1, x2, x3, rfl, _, hx0⟩, _, hg2⟩
  have HB := Lib.hid (hb0.grown hg2 (by omega) (fun q e => by cases e; omega))
  have HX0 := Lib.hid hx0
  clear hg2 hb0 hx0 hsz
  go_wp2_with fail
  go_ret
  exact ⟨by rw [HX0.out]; rfl, HB.out.alloc HB.out.size _⟩

theorem grown_of_below0 {w w' : World} (h : Below w.heap.size w w') : w.grownBy w' none := ⟨h.os, h.tape, h.output, h.size, fun i hi _ => h.block i hi⟩
/-- What comes of core.Replace. -/
def ReplPost (W : World) (z : By) (e : Ending) (w' : World) : Prop := ∃ vn va vb vc, e = .returned (exV z.k z.s z.n z.op vn va vb vc) ∧ ExV (Old w'.heap.size) w' vn va vb vc z.ns z.a z.b z.c ∧ Below W.heap.size W w'

noncomputable def exFq : Array Field := (Tryz.prog.underlying 27).elim #[] fun | .struct fs => fs | _ => #[]
theorem under_exq : Tryz.prog.underlying 27 = some (.struct exFq) := by kernel_rfl
theorem size_exq : (Tryz.prog.info? 27).map (·.size) = some 8 := by kernel_rfl
/-- What is written at the end. -/
theorem ex_end {w : World} {g : Nat} {T : TypeId} {d0 d1 d2 d3 d4 d5 d6 d7 : Value} (v0 v1 v2 v3 v4 v5 v6 v7 : Value) (h : w.heap[g]? = some (.cells #[d0, d1, d2, d3, d4, d5, d6, d7] T (0, 0))) :
    ∃ wE, wE = ((((((((w.setCell ⟨g, 0, none⟩ v0).setCell ⟨g, 1, none⟩ v1).setCell ⟨g, 2, none⟩ v2).setCell ⟨g, 3, none⟩ v3).setCell ⟨g, 4, none⟩ v4).setCell ⟨g, 5, none⟩ v5).setCell ⟨g, 6, none⟩ v6).setCell ⟨g, 7, none⟩ v7) ∧ w.grownBy wE (some g) ∧ wE.heap[g]? = some (.cells #[v0, v1, v2, v3, v4, v5, v6, v7] T (0, 0)) := by
  refine ⟨_, rfl, ?_, ?_⟩
  · exact ((((((((mz_set w g 0 v0).trans (mz_set _ g 1 v1)).trans (mz_set _ g 2 v2)).trans (mz_set _ g 3 v3)).trans (mz_set _ g 4 v4)).trans (mz_set _ g 5 v5)).trans (mz_set _ g 6 v6)).trans (mz_set _ g 7 v7))
  · rw [(heap_set (heap_set (heap_set (heap_set (heap_set (heap_set (heap_set (heap_set h v0) v1) v2) v3) v4) v5) v6) v7)]
    simp only [List.setIfInBounds_toArray, List.set_cons_succ, List.set_cons_zero]

set_option maxHeartbeats 2000000 in
set_option maxRecDepth 100000 in
theorem replace_call (HCp : ∀ (M rb ybk yof : Nat) (x : List UInt8) (y : By) (YB n : Nat), costE y.ns y.a y.b y.c ≤ 1048576 → (parts y.a y.b y.c).count ≤ 131072 → CopyC M rb ybk yof x y YB true n)
    (x : List UInt8) (k : Int) (s : List UInt8) (nn op : Int) (vn va vb vc : Value) (ns : List (List UInt8)) (a b c : Fx) (y : By) (yn ya yb yc : Value) (W : World)
    (hx : ExV (Old W.heap.size) W vn va vb vc ns a b c) (hy : ExV (Old W.heap.size) W yn ya yb yc y.ns y.a y.b y.c)
    (hcnt : (parts a b c).count + 1 ≤ 131072) (hce : costE ns a b c ≤ 1048576) (hcy : (parts y.a y.b y.c).count + 1 ≤ 131072) (hye : costE y.ns y.a y.b y.c ≤ 1048576)
    (hby : ownBytes ns b c + bytesF (parts a b c) + (ownBytes y.ns y.b y.c + bytesF (parts y.a y.b y.c)) * (1 + (parts a b c).count) ≤ 2147483647) :
    Calls Tryz.prog 9 #[exV k s nn op vn va vb vc, .string (bt x), exV y.k y.s y.n y.op yn ya yb yc] W (ReplPost W (repE x y true k s nn op ns a b c)) := by
  have HX := Lib.hid hx
  have HY := Lib.hid hy
  have HC := Lib.hid HCp
  obtain ⟨an, cn, rfl⟩ := hx.ns.slice
  obtain ⟨aa, ca, rfl⟩ := hx.a.slice
  obtain ⟨ab, cb, rfl⟩ := hx.b.slice
  obtain ⟨ac, cc, rfl⟩ := hx.c.slice
  obtain ⟨bn, dn, rfl⟩ := hy.ns.slice
  obtain ⟨ba, da, rfl⟩ := hy.a.slice
  obtain ⟨bb, db, rfl⟩ := hy.b.slice
  obtain ⟨bc, dc, rfl⟩ := hy.c.slice
  obtain ⟨XB, hXB⟩ : ∃ XB : Nat, ownBytes ns b c + bytesF (parts a b c) = XB := ⟨_, rfl⟩
  obtain ⟨YB, hYB⟩ : ∃ YB : Nat, ownBytes y.ns y.b y.c + bytesF (parts y.a y.b y.c) = YB := ⟨_, rfl⟩
  rw [hXB, hYB] at hby
  have hXY : XB + YB ≤ 2147483647 := by
    have : YB * 1 ≤ YB * (1 + (parts a b c).count) := Nat.mul_le_mul_left _ (by omega)
    omega
  have HBy := Lib.hid hby
  have HXB := Lib.hid hXB
  have HYB := Lib.hid hYB
  obtain ⟨C, hC⟩ : ∃ C, (parts a b c).count = C := ⟨_, rfl⟩
  obtain ⟨D, hD⟩ : ∃ D, (parts y.a y.b y.c).count = D := ⟨_, rfl⟩
  rw [hC] at hcnt
  rw [hD] at hcy
  have HCC := Lib.hid hC
  have HDD := Lib.hid hD
  clear hx hy HCp hby hXB hYB hC hD
  unfold exV
  go_enter Tryz.func9, Tryz.ntmps9
  go_wp2_with fail
  go_at_call 17
  refine (newMeasurer_c _ _).mono ?_
  rintro e w1 ⟨rfl, rfl⟩
  go_wp2_with fail
  go_at_call 19
  generalize hW1 : World.alloc (World.alloc (World.alloc (World.alloc (World.alloc W _) _) _) _) _ = W1
  have hbx : Below (W.heap.size + 1) (W.alloc (exBox k s nn op (.slice an ns.length cn) (.slice aa a.len ca) (.slice ab b.len cb) (.slice ac c.len cc))) W1 := by
    rw [← hW1]
    exact ((((Below.refl _ _).alloc (by simp) _).alloc (by simp) _).alloc (by simp <;> omega) _).alloc (by simp <;> omega) _
  have hby0 : Below (W.heap.size + 1 + 1) ((W.alloc (exBox k s nn op (.slice an ns.length cn) (.slice aa a.len ca) (.slice ab b.len cb) (.slice ac c.len cc))).alloc (exBox y.k y.s y.n y.op (.slice bn y.ns.length dn) (.slice ba y.a.len da) (.slice bb y.b.len db) (.slice bc y.c.len dc))) W1 := by
    rw [← hW1]
    exact (((Below.refl _ _).alloc (by simp) _).alloc (by simp) _).alloc (by simp <;> omega) _
  have hb0 : Below W.heap.size W W1 := below_old hbx
  have hsz : W1.heap.size = W.heap.size + 5 := by rw [← hW1]; simp
  have hmz : MzAt W1 (W.heap.size + 1 + 1 + 1 + 1) (W.heap.size + 1 + 1 + 1) 1048576 := by
    rw [← hW1]
    unfold MzAt
    simp only [World.alloc, Array.getElem?_push, Array.size_push]
    simp
  have hkb : W1.heap[W.heap.size + 1 + 1 + 1]? = some (.map #[] 0) := by
    rw [← hW1]
    simp only [World.alloc, Array.getElem?_push, Array.size_push]
    simp
  have hrs : W1.heap[W.heap.size + 1 + 1]? = some (.cells #[.int .i64 0, .string ⟨#[]⟩, .int .i64 0, .int .i64 0, .slice none 0 0, .slice none 0 0, .slice none 0 0, .slice none 0 0] 27 (0, 0)) := by
    rw [← hW1]
    simp only [World.alloc, Array.getElem?_push, Array.size_push]
    simp
  clear hW1
  obtain ⟨c0, c1, c2, c3, c4, c5, c6, c7⟩ := exBox_cell (Nat.lt_succ_self _) hbx
  have hex : ExL (W.heap.size + 1 + 1) W1 W.heap.size 0 k s nn op (.slice an ns.length cn) (.slice aa a.len ca) (.slice ab b.len cb) (.slice ac c.len cc) ns a b c :=
    ⟨by omega, c0, c1, c2, c3, c4, c5, c6, c7, HX.out.keep (fun q hq => ⟨by have : q < W.heap.size := hq; show q < W.heap.size + 1 + 1; omega, fun o => hb0.cell (p := ⟨q, o, none⟩) hq⟩)⟩
  have hey : ExL (W.heap.size + 1 + 1) W1 (W.heap.size + 1) 0 y.k y.s y.n y.op (.slice bn y.ns.length dn) (.slice ba y.a.len da) (.slice bb y.b.len db) (.slice bc y.c.len dc) y.ns y.a y.b y.c := by
    obtain ⟨d0, d1, d2, d3, d4, d5, d6, d7⟩ := exBox_cell (w := W.alloc (exBox k s nn op (.slice an ns.length cn) (.slice aa a.len ca) (.slice ab b.len cb) (.slice ac c.len cc))) (B := W.heap.size + 1 + 1) (by simp) hby0
    simp only [World.size_alloc] at d0 d1 d2 d3 d4 d5 d6 d7
    exact ⟨by omega, d0, d1, d2, d3, d4, d5, d6, d7, HY.out.keep (fun q hq => ⟨by have : q < W.heap.size := hq; show q < W.heap.size + 1 + 1; omega, fun o => hb0.cell (p := ⟨q, o, none⟩) hq⟩)⟩
  clear c0 c1 c2 c3 c4 c5 c6 c7 hbx hby0
  refine (measure_any (W.heap.size + 1 + 1) (W.heap.size + 1 + 1 + 1 + 1) (W.heap.size + 1 + 1 + 1) W.heap.size 0 1048576 k s nn op _ _ _ _ ns a b c W1 _ rfl ⟨by omega, by omega, by omega, hkb, by omega, by rw [HCC.out]; omega, by rw [HCC.out]; omega, by have := HXB.out; omega⟩ hmz hex).mono ?_
  rintro e w2 ⟨⟨x0, x1, x2, x3, rfl, hx2, _⟩, hm2, hg2⟩
  have hx2' : x2 = XB := by rw [hx2, ← HXB.out]; omega
  have hex2 := hex.grow hg2 (fun q e => by cases e; omega) (by omega)
  have hey2 := hey.grow hg2 (fun q e => by cases e; omega) (by omega)
  have hkb2 := (hg2.block _ (by omega) (by simp)).trans hkb
  have hrs2 := (hg2.block _ (by omega) (by simp)).trans hrs
  have hb2 : Below W.heap.size W w2 := hb0.grown hg2 (by omega) (fun q e => by cases e; omega)
  have hs2 := hg2.size
  rw [HCC.out] at hm2
  clear hx2 hex hey hkb hrs hb0 hg2 hmz
  have Hx2 := Lib.hid hx2'
  clear hx2'
  have HA2 := Lib.hid (And.intro hex2 (And.intro hey2 (And.intro hkb2 (And.intro hrs2 (And.intro hb2 hm2)))))
  clear hex2 hey2 hkb2 hrs2 hb2 hm2
  go_wp2_with fail
  go_at_call 19
  generalize hw3 : World.alloc w2 _ = w3
  have hg3 : w2.grownBy w3 none := by rw [← hw3]; exact grown_of_below0 (below_alloc' w2 _)
  have hX3 : w3.heap[w2.heap.size]? = some (.cells #[.int .i64 ((parts a b c).count + 1), .int .i64 x1, .int .i64 x2, .int .i64 x3] 57 (0, 0)) := by
    rw [← hw3]; exact World.alloc_heap_new w2 _
  have hs3 : w3.heap.size = w2.heap.size + 1 := by rw [← hw3]; simp
  clear hw3
  obtain ⟨hex2, hey2, hkb2, hrs2, hb2, hm2⟩ := HA2.out
  have hex3 := hex2.grow hg3 (fun q e => by cases e) (by omega)
  have hey3 := hey2.grow hg3 (fun q e => by cases e) (by omega)
  have hkb3 := (hg3.block _ (by omega) (by simp)).trans hkb2
  have hrs3 := (hg3.block _ (by omega) (by simp)).trans hrs2
  have hm3 : MzAt w3 (W.heap.size + 1 + 1 + 1 + 1) (W.heap.size + 1 + 1 + 1) (1048576 - (C : Nat)) := (hg3.block _ (by omega) (by simp)).trans hm2
  have hb3 : Below W.heap.size W w3 := hb2.grown hg3 (by omega) (fun q e => by cases e)
  clear hex2 hey2 hkb2 hrs2 hb2 hm2 hg3
  refine (measure_any (W.heap.size + 1 + 1) (W.heap.size + 1 + 1 + 1 + 1) (W.heap.size + 1 + 1 + 1) (W.heap.size + 1) 0 (1048576 - (C : Nat)) y.k y.s y.n y.op _ _ _ _ y.ns y.a y.b y.c w3 _ rfl ⟨by omega, by omega, by omega, hkb3, by omega, by rw [HDD.out]; omega, by rw [HDD.out]; omega, by have := HYB.out; omega⟩ hm3 hey3).mono ?_
  rintro e w4 ⟨⟨y0, y1, y2, y3, rfl, hy2, _⟩, _, hg4⟩
  have hy2' : y2 = YB := by rw [hy2, ← HYB.out]; omega
  have hex4 := hex3.grow hg4 (fun q e => by cases e; omega) (by omega)
  have hey4 := hey3.grow hg4 (fun q e => by cases e; omega) (by omega)
  have hrs4 := (hg4.block _ (by omega) (by simp)).trans hrs3
  have hX4 := (hg4.block _ (by omega) (by simp; omega)).trans hX3
  have hb4 : Below W.heap.size W w4 := hb3.grown hg4 (by omega) (fun q e => by cases e; omega)
  have hs4 := hg4.size
  clear hy2 hex3 hey3 hkb3 hrs3 hX3 hb3 hg4 hm3 HA2
  subst hy2'
  have HA4 := Lib.hid (And.intro hex4 (And.intro hey4 (And.intro hrs4 (And.intro hb4 hX4))))
  clear hex4 hey4 hrs4 hb4 hX4
  go_upto_region 4 with fail
  generalize hw5 : World.alloc w4 _ = w5
  have hg5 : w4.grownBy w5 none := by rw [← hw5]; exact grown_of_below0 (below_alloc' w4 _)
  have hY5 : ∃ u0 u1 u3, w5.heap[w4.heap.size]? = some (.cells #[u0, u1, .int .i64 YB, u3] 57 (0, 0)) := by
    rw [← hw5]; exact ⟨_, _, _, World.alloc_heap_new w4 _⟩
  have hs5 : w5.heap.size = w4.heap.size + 1 := by rw [← hw5]; simp
  clear hw5
  obtain ⟨hex4, hey4, hrs4, hb4, hX4⟩ := HA4.out
  obtain ⟨u0, u1, u3, hY5⟩ := hY5
  have hex5 := hex4.grow hg5 (fun q e => by cases e) (by omega)
  have hey5 := hey4.grow hg5 (fun q e => by cases e) (by omega)
  have hrs5 := (hg5.block _ (by omega) (by simp)).trans hrs4
  have hX5 := (hg5.block _ (by omega) (by simp)).trans hX4
  have hb5 : Below W.heap.size W w5 := hb4.grown hg5 (by omega) (fun q e => by cases e)
  have HA5 := Lib.hid (And.intro hex5 (And.intro hey5 (And.intro hrs5 (And.intro hb5 (And.intro hX5 hY5)))))
  have x52 : w5.cell? ⟨w2.heap.size, 2, none⟩ = some (.int .i64 XB) := by rw [← Hx2.out]; exact cell_of hX5 2 _ rfl
  have y52 : w5.cell? ⟨w4.heap.size, 2, none⟩ = some (.int .i64 YB) := cell_of hY5 2 _ rfl
  clear hex4 hey4 hrs4 hb4 hX4 hex5 hey5 hrs5 hb5 hX5 hY5 hg5 HA4
  have d1 : decide ((XB : Int) > 2147483647) = false := decide_eq_false (by omega)
  have d2 : decide ((2147483647 : Int) < XB) = false := decide_eq_false (by omega)
  have hwr : IntKind.i64.wrap (2147483647 - (XB : Int)) = 2147483647 - XB := by rw [IntKind.wrap_i64]; omega
  go_upto_region 7 with fail
  generalize hw6 : World.alloc w5 _ = w6
  have hg6 : w5.grownBy w6 none := by rw [← hw6]; exact grown_of_below0 (below_alloc' w5 _)
  have hr6 : RpAt w6 (w4.heap.size + 1) x ⟨W.heap.size + 1, 0, none⟩ YB (2147483647 - (XB : Int)) := by
    rw [← hw6, ← hs5]; exact World.alloc_heap_new w5 _
  have hs6 : w6.heap.size = w5.heap.size + 1 := by rw [← hw6]; simp
  clear hw6
  obtain ⟨hex5, hey5, hrs5, hb5, _⟩ := HA5.out
  have hex6 := hex5.grow hg6 (fun q e => by cases e) (by omega)
  have hey6 := hey5.grow hg6 (fun q e => by cases e) (by omega)
  have hrs6 := (hg6.block _ (by omega) (by simp)).trans hrs5
  have hb6 : Below W.heap.size W w6 := hb5.grown hg6 (by omega) (fun q e => by cases e)
  have hR : RpW (W.heap.size + 1 + 1) (w4.heap.size + 1) (W.heap.size + 1) 0 x y YB w6 (2147483647 - (XB : Int)) := ⟨hr6, by omega, by omega, ⟨_, _, _, _, hey6⟩, by omega⟩
  have hE := hex6.toR (rb := w4.heap.size + 1) (by omega) (by omega)
  have hnd : (need YB true (parts a b c).count : Int) ≤ 2147483647 - XB := by
    have h1 : need YB true (parts a b c).count = YB * (1 + (parts a b c).count) := rfl
    have h2 := HBy.out
    omega
  have HRs := Lib.hid (And.intro hrs6 hb6)
  clear hex5 hey5 hrs5 hb5 hg6 hex6 hey6 hrs6 hb6 HA5 x52 y52 hr6 d1 d2
  go_wp2_with fail
  go_at_call 20
  refine (HC.out (W.heap.size + 1 + 1) (w4.heap.size + 1) (W.heap.size + 1) 0 x y YB _ hye (by rw [HDD.out]; omega) W.heap.size 0 k s nn op _ _ _ _ ns a b c w6 _ (Nat.lt_succ_self _) hE hR hce (by rw [HCC.out]; omega) hnd).mono ?_
  rintro e w7 ⟨vn7, va7, vb7, vc7, rfl, hex7, ⟨room7, hrp7, hle7, hge7⟩, hg7⟩
  obtain ⟨z, hz⟩ : ∃ z, repE x y true k s nn op ns a b c = z := ⟨_, rfl⟩
  rw [hz] at hex7 ⊢
  obtain ⟨an7, cn7, rfl⟩ := hex7.ns.slice
  obtain ⟨aa7, ca7, rfl⟩ := hex7.a.slice
  obtain ⟨ab7, cb7, rfl⟩ := hex7.b.slice
  obtain ⟨ac7, cc7, rfl⟩ := hex7.c.slice
  have HZ := Lib.hid hz
  have hs7 := hg7.size
  have hrs7 := (hg7.block _ (by omega) (by simp; omega)).trans HRs.out.1
  have hb7 : Below W.heap.size W w7 := HRs.out.2.grown hg7 (by omega) (fun q e => by cases e; omega)
  have hrm0 : ¬ room7 < 0 := by omega
  have d3 : decide (room7 < 0) = false := decide_eq_false hrm0
  have hlr : w4.heap.size + 1 < w7.heap.size := by omega
  have z3 := fun o => cell_al hlr (cell_of hrp7 3 (.int .i64 room7) rfl) o
  have HQ7 := Lib.hid (And.intro hex7 (And.intro hrs7 hb7))
  clear hz hex7 hle7 hge7 hg7 hrp7 hrs7 hb7 hE hR hnd
  unfold exV
  dsimp only
  go_upto_region 10 with fail
  generalize hw8 : World.alloc w7 _ = w8
  have hg8 : w7.grownBy w8 none := by rw [← hw8]; exact grown_of_below0 (below_alloc' w7 _)
  have h8 : w8.heap[w7.heap.size]? = some (.cells #[.int .i64 z.k, .string (bt z.s), .int .i64 z.n, .int .i64 z.op, .slice an7 z.ns.length cn7, .slice aa7 z.a.len ca7, .slice ab7 z.b.len cb7, .slice ac7 z.c.len cc7] 27 (0, 0)) := by
    rw [← hw8]; exact World.alloc_heap_new w7 _
  have hs8 : w8.heap.size = w7.heap.size + 1 := by rw [← hw8]; simp
  clear hw8
  obtain ⟨hex7, hrs7, hb7⟩ := HQ7.out
  have hrs8 := (hg8.block _ (by omega) (by simp)).trans hrs7
  have f68 := fun o => frozen_of hrs8 o
  have k8_0 := cell_of h8 0 _ rfl
  have k8_1 := cell_of h8 1 _ rfl
  have k8_2 := cell_of h8 2 _ rfl
  have k8_3 := cell_of h8 3 _ rfl
  have k8_4 := cell_of h8 4 _ rfl
  have k8_5 := cell_of h8 5 _ rfl
  have k8_6 := cell_of h8 6 _ rfl
  have k8_7 := cell_of h8 7 _ rfl
  have k6_0 := cell_of hrs8 0 _ rfl
  have k6_1 := cell_of hrs8 1 _ rfl
  have k6_2 := cell_of hrs8 2 _ rfl
  have k6_3 := cell_of hrs8 3 _ rfl
  have k6_4 := cell_of hrs8 4 _ rfl
  have k6_5 := cell_of hrs8 5 _ rfl
  have k6_6 := cell_of hrs8 6 _ rfl
  have k6_7 := cell_of hrs8 7 _ rfl
  have HRs8 := Lib.hid hrs8
  have HQ8 := Lib.hid (And.intro hex7 (And.intro hb7 hg8))
  clear hex7 hrs7 hb7 hg8 h8 hrs8 z3
  go_wp2_with fail
  obtain ⟨wE, hwE, hgE, h6E⟩ := ex_end (.int .i64 z.k) (.string (bt z.s)) (.int .i64 z.n) (.int .i64 z.op) (.slice an7 z.ns.length cn7) (.slice aa7 z.a.len ca7) (.slice ab7 z.b.len cb7) (.slice ac7 z.c.len cc7) HRs8.out
  rw [← hwE]
  clear hwE
  refine bodyPost_ret (results_cell_row rfl _ _ (W.heap.size + 1 + 1) 27 #[.int .i64 z.k, .string (bt z.s), .int .i64 z.n, .int .i64 z.op, .slice an7 z.ns.length cn7, .slice aa7 z.a.len ca7, .slice ab7 z.b.len cb7, .slice ac7 z.c.len cc7] (0, 0) (.struct exFq) rfl h6E under_exq rfl size_exq) rfl ?_
  rw [HZ.out]
  obtain ⟨hex7, hb7, hg8⟩ := HQ8.out
  have hsE := hgE.size
  have hk : Keep (Amid (W.heap.size + 1 + 1) w6.heap.size w7.heap.size) (Old wE.heap.size) w7 wE := fun b hb => by
    have hb' : b < w7.heap.size ∧ b ≠ W.heap.size + 1 + 1 := by rcases hb with hb | hb <;> omega
    refine ⟨by show b < wE.heap.size; omega, fun o => ?_⟩
    exact (World.cell?_of_block (w := w8) (w' := wE) (a := ⟨b, o, none⟩) (hgE.block b (by omega) (fun e => hb'.2 (Option.some.inj e)))).trans (World.cell?_of_block (w := w7) (w' := w8) (a := ⟨b, o, none⟩) (hg8.block b hb'.1 (by simp)))
  exact ⟨_, _, _, _, rfl, hex7.keep hk, (hb7.grown hg8 (by omega) (fun q e => by cases e)).grown hgE (by omega) (fun q e => by cases e; omega)⟩
end Go.Proofs.YtfcogjlojfcfkaaGreat
end

section
namespace Go.Proofs.YtfcogjlojfcfkaaGreat
open Go.RowKit Ex0

theorem rep_pres (x : List UInt8) (y : By) (al o : Bool) (f : Fx) : pres (repF x y al o f) = pres f := by
  induction f with
  | nil => rfl
  | cons p k s n op ns a b c r _ _ _ ih =>
    rw [repF_cons]
    simp only [By.fx, pres, ih]
theorem ownBytes_rep (x : List UInt8) (y : By) (o1 o2 : Bool) (ns : List (List UInt8)) (b c : Fx) : ownBytes ns (repF x y false o1 b) (repF x y true o2 c) = ownBytes ns b c := by
  unfold ownBytes nameCnt
  rw [repF_len, repF_len, rep_pres]
/-- The bytes of a whole expression. -/
def bytesE (ns : List (List UInt8)) (a b c : Fx) : Nat := ownBytes ns b c + (bytesF a + bytesF b + bytesF c)
theorem repF_bytes (x : List UInt8) (y : By) (Y : Nat) (hy : bytesE y.ns y.a y.b y.c ≤ Y) (f : Fx) : ∀ (al o : Bool), bytesF (repF x y al o f) ≤ bytesF f + Y * f.count := by
  induction f with
  | nil => intro al o; simp [repF, bytesF]
  | cons p k s n op ns a b c r iha ihb ihc ihr =>
    intro al o
    have hr := ihr al o
    have hc : Y * (Fx.cons p k s n op ns a b c r).count = Y + Y * a.count + Y * b.count + Y * c.count + Y * r.count := by
      simp only [Fx.count, Nat.mul_add, Nat.mul_one]
      omega
    rw [hc]
    rw [repF]
    split
    · simp only [bytesF]
      unfold bytesE at hy
      omega
    · simp only [bytesF]
      rw [ownBytes_rep]
      have h1 := iha false ((o && seesP x al p) && !decide (x ∈ ns) && !decide (x ∈ bnames b))
      have h2 := ihb false ((o && seesP x al p) && !decide (x ∈ ns) && !decide (x ∈ bnames b))
      have h3 := ihc true (((o && seesP x al p) && !decide (x ∈ ns) && !decide (x ∈ bnames b)) && !decide (s = x))
      omega
theorem repE_bytes (x : List UInt8) (y : By) (Y : Nat) (hy : bytesE y.ns y.a y.b y.c ≤ Y) {o : Bool} {k : Int} {s : List UInt8} {n op : Int} {ns : List (List UInt8)} {a b c : Fx} {z : By} (hz : z = repE x y o k s n op ns a b c) :
    bytesE z.ns z.a z.b z.c ≤ bytesE ns a b c + Y * (1 + (parts a b c).count) := by
  subst hz
  rw [parts_count]
  have hc : Y * (1 + (a.count + (b.count + c.count))) = Y + Y * a.count + Y * b.count + Y * c.count := by
    simp only [Nat.mul_add, Nat.mul_one]
    omega
  rw [hc]
  unfold repE
  split
  · omega
  · simp only [bytesE]
    rw [ownBytes_rep]
    have h1 := repF_bytes x y Y hy a false (o && !decide (x ∈ ns) && !decide (x ∈ bnames b))
    have h2 := repF_bytes x y Y hy b false (o && !decide (x ∈ ns) && !decide (x ∈ bnames b))
    have h3 := repF_bytes x y Y hy c true ((o && !decide (x ∈ ns) && !decide (x ∈ bnames b)) && !decide (s = x))
    omega
theorem repF_cost (x : List UInt8) (y : By) (hy : costE y.ns y.a y.b y.c ≤ 1) (f : Fx) : ∀ (al o : Bool), (repF x y al o f).cost ≤ f.cost := by
  induction f with
  | nil => intro al o; simp [repF, Fx.cost]
  | cons p k s n op ns a b c r iha ihb ihc ihr =>
    intro al o
    have hr := ihr al o
    rw [repF]
    split
    · simp only [Fx.cost]
      unfold costE at hy
      omega
    · simp only [Fx.cost]
      rw [repF_len]
      have h1 := iha false ((o && seesP x al p) && !decide (x ∈ ns) && !decide (x ∈ bnames b))
      have h2 := ihb false ((o && seesP x al p) && !decide (x ∈ ns) && !decide (x ∈ bnames b))
      have h3 := ihc true (((o && seesP x al p) && !decide (x ∈ ns) && !decide (x ∈ bnames b)) && !decide (s = x))
      omega
theorem repE_cost (x : List UInt8) (y : By) (hy : costE y.ns y.a y.b y.c ≤ 1) {o : Bool} {k : Int} {s : List UInt8} {n op : Int} {ns : List (List UInt8)} {a b c : Fx} {z : By} (hz : z = repE x y o k s n op ns a b c) :
    costE z.ns z.a z.b z.c ≤ costE ns a b c := by
  subst hz
  unfold repE
  split
  · have : 1 ≤ costE ns a b c := by unfold costE; omega
    omega
  · simp only [costE]
    rw [repF_len]
    have h1 := repF_cost x y hy a false (o && !decide (x ∈ ns) && !decide (x ∈ bnames b))
    have h2 := repF_cost x y hy b false (o && !decide (x ∈ ns) && !decide (x ∈ bnames b))
    have h3 := repF_cost x y hy c true ((o && !decide (x ∈ ns) && !decide (x ∈ bnames b)) && !decide (s = x))
    omega

/-- A number. -/
def byLit : By := ⟨2, [], 0, 0, [], .nil, .nil, .nil⟩
/-- A number applied to a number. -/
def byApp : By := ⟨4, [], 0, 0, [], .cons .no 2 [] 0 0 [] .nil .nil .nil (.cons .no 2 [] 0 0 [] .nil .nil .nil .nil), .nil, .nil⟩
theorem byLit_ok (x : List UInt8) : ByOk x byLit 0 := by
  refine ⟨⟨by decide, by decide⟩, ?_, by decide⟩
  simp [byLit, usesE, usesOf, Fx.uses]
theorem byApp_ok (x : List UInt8) : ByOk x byApp 2 := by
  refine ⟨⟨by decide, by decide⟩, ?_, by decide⟩
  simp [byApp, usesE, usesOf, Fx.uses]
theorem byLit_le : costE byLit.ns byLit.a byLit.b byLit.c ≤ 1 ∧ bytesE byLit.ns byLit.a byLit.b byLit.c ≤ 408 ∧ (parts byLit.a byLit.b byLit.c).count = 0 := by decide
theorem byApp_le : costE byApp.ns byApp.a byApp.b byApp.c ≤ 3 ∧ bytesE byApp.ns byApp.a byApp.b byApp.c ≤ 408 ∧ (parts byApp.a byApp.b byApp.c).count = 2 := by decide
end Go.Proofs.YtfcogjlojfcfkaaGreat
end
