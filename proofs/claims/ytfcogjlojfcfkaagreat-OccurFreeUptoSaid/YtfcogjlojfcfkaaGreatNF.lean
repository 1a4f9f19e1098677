/- Rounds of the replacer's loops over the expressions and the binds; whether the name stays open. Bounds on how great they are. -/
import Derived.Test.YtfcogjlojfcfkaaGreatND
import Derived.Test.YtfcogjlojfcfkaaGreatNE
namespace Go.Proofs.YtfcogjlojfcfkaaGreat
open Go.RowKit Ex0
attribute [local go_sem] bt_size bt_list bt_toList

noncomputable def cpR6 : Code := ((Tryz.f20.body.bind (codeAt 6)).getD .skip)
noncomputable def cpR13 : Code := ((Tryz.f20.body.bind (codeAt 13)).getD .skip)
noncomputable def cpR19 : Code := ((Tryz.f20.body.bind (codeAt 19)).getD .skip)

set_option maxHeartbeats 4000000 in
set_option maxRecDepth 100000 in
theorem sub_round (M rb ybk yof : Nat) (x : List UInt8) (y : By) (YB n : Nat) (op o2 : Bool) (hC : ∀ o, (o = true → op = true) → CopyC M rb ybk yof x y YB o n) (hO : o2 = true → op = true)
    (W wr : World) (rs : Int) (B6 B7 bk of : Nat) (k : Int) (s : List UInt8) (nn op' : Int) (vn vb vc : Value) (cc : Nat) (ns : List (List UInt8)) (a b c : Fx) (c4 c6 c7 : Value) (bb oo g cap1 lo : Nat)
    (g1 r : Fx) (k1 : Int) (s1 : List UInt8) (n1 op1 : Int) (ns1 : List (List UInt8)) (xa xb xc : Fx) (rf : Fx) (hrf : rf.len = g1.len)
    (hP : CpW M rb ybk yof x y YB W wr rs B6 B7 bk of k s nn op' vn (.slice (some ⟨bb, oo, none⟩) a.len cc) vb vc ns a b c c4 (.slice (some ⟨g, 0, none⟩) a.len cap1) c6 c7) (hst : RowSt M lo 27 0 wr g cap1 a.len rf (.cons .no k1 s1 n1 op1 ns1 xa xb xc r)) (hlow : B7 < lo)
    (wn wa wb wc : Value) (hxe : ExR rb M wr bb (oo + g1.len * 8) k1 s1 n1 op1 wn wa wb wc ns1 xa xb xc) (hbbM : bb < M)
    (hcn : (parts xa xb xc).count < n ∧ (parts xa xb xc).count ≤ 131072 ∧ costE ns1 xa xb xc ≤ 1048576) (hnd : (need YB o2 (parts xa xb xc).count : Int) ≤ rs) (hlt : g1.len < a.len) (hcl : a.len ≤ 1048576) (hlc : a.len ≤ cc) (hcm : cc ≤ maxLen)
    {Q : Exit → Act → World → Prop} (hQ : ∀ c a d v w, Q (.panic c) (a.put d v) w → Q (.panic c) a w) (u3 u4 u5 u6 u9 u10 u11 u12 u13 u14 u15 u16 u17 u18 u19 u20 u21 u22 u23 u24 u25 u26 u27 u28 u29 u30 u31 u32 u33 u34 u35 u36 u37 u38 u39 u40 u41 u42 u43 u44 u45 u46 u47 u48 u49 u50 u51 u52 u53 u54 u55 u56 u57 u58 u59 u60 u61 u62 u63 u64 u65 u66 u67 u68 u69 u70 u71 u72 u73 u74 u75 u76 u77 u78 u79 u80 u81 u82 u83 u84 u85 u86 u87 u88 u89 u90 u91 u92 u93 u94 u95 u96 u97 u98 u99 u100 u101 u102 u103 u104 u105 u106 u107 u108 u109 u110 u111 u112 u113 u114 u115 u116 u117 u118 u119 u120 u121 u122 u123 u124 u125 u126 u127 u128 u129 u130 u131 u132 u133 u134 u135 u136 u137 u138 u139 u140 u141 u142 u143 u144 u145 u146 u147 u148 u149 u150 u151 u152 u153 u154 u155 u156 u157 u158 u159 u160 u161 u162 u163 u164 u165 u166 u167 u168 u169 u170 u171 u172 u173 u174 u175 u176 u177 u178 u179 u180 u181 u182 u183 u184 u185 : Value)
    (H : ∀ (x101 x102 x103 x104 x105 x106 x107 x108 x109 x110 x111 x112 x113 : Value) (w13 wE : World) (rm13 : Int), wr.drew.grownBy w13 (some rb) → w13.grownBy wE (some g) → CpW M rb ybk yof x y YB W w13 rm13 B6 B7 bk of k s nn op' vn (.slice (some ⟨bb, oo, none⟩) a.len cc) vb vc ns a b c c4 (.slice (some ⟨g, 0, none⟩) a.len cap1) c6 c7 → CpW M rb ybk yof x y YB W wE rm13 B6 B7 bk of k s nn op' vn (.slice (some ⟨bb, oo, none⟩) a.len cc) vb vc ns a b c c4 (.slice (some ⟨g, 0, none⟩) a.len cap1) c6 c7 →
      RowSt M lo 27 0 wE g cap1 a.len (rf.app ((repE x y o2 k1 s1 n1 op1 ns1 xa xb xc).fx .no .nil)) r → rs - need YB o2 (parts xa xb xc).count ≤ rm13 → rm13 ≤ rs → Q .normal ⟨#[.pointer (some ⟨rb, 0, none⟩), .pointer (some ⟨bk, of, none⟩), .bool o2, u3, u4, u5, u6, .pointer (some ⟨B7, 0, none⟩), .int .i64 g1.len, u9, u10, u11, u12, u13, u14, u15, u16, u17, u18, u19, u20, u21, u22, u23, u24, u25, u26, u27, u28, u29, u30, u31, u32, u33, u34, u35, u36, u37, u38, u39, u40, u41, u42, u43, u44, u45, u46, u47, u48, u49, u50, u51, u52, u53, u54, u55, u56, u57, u58, u59, u60, u61, u62, u63, u64, u65, u66, u67, u68, u69, u70, u71, u72, u73, u74, u75, u76, u77, u78, u79, u80, u81, u82, u83, u84, u85, u86, u87, u88, u89, u90, u91, u92, u93, u94, u95, u96, u97, u98, u99, u100, x101, x102, x103, x104, x105, x106, x107, x108, x109, x110, x111, x112, x113, u114, u115, u116, u117, u118, u119, u120, u121, u122, u123, u124, u125, u126, u127, u128, u129, u130, u131, u132, u133, u134, u135, u136, u137, u138, u139, u140, u141, u142, u143, u144, u145, u146, u147, u148, u149, u150, u151, u152, u153, u154, u155, u156, u157, u158, u159, u160, u161, u162, u163, u164, u165, u166, u167, u168, u169, u170, u171, u172, u173, u174, u175, u176, u177, u178, u179, u180, u181, u182, u183, u184, u185], []⟩ wE) :
    cpR13.wp Tryz.prog Q ⟨#[.pointer (some ⟨rb, 0, none⟩), .pointer (some ⟨bk, of, none⟩), .bool o2, u3, u4, u5, u6, .pointer (some ⟨B7, 0, none⟩), .int .i64 g1.len, u9, u10, u11, u12, u13, u14, u15, u16, u17, u18, u19, u20, u21, u22, u23, u24, u25, u26, u27, u28, u29, u30, u31, u32, u33, u34, u35, u36, u37, u38, u39, u40, u41, u42, u43, u44, u45, u46, u47, u48, u49, u50, u51, u52, u53, u54, u55, u56, u57, u58, u59, u60, u61, u62, u63, u64, u65, u66, u67, u68, u69, u70, u71, u72, u73, u74, u75, u76, u77, u78, u79, u80, u81, u82, u83, u84, u85, u86, u87, u88, u89, u90, u91, u92, u93, u94, u95, u96, u97, u98, u99, u100, u101, u102, u103, u104, u105, u106, u107, u108, u109, u110, u111, u112, u113, u114, u115, u116, u117, u118, u119, u120, u121, u122, u123, u124, u125, u126, u127, u128, u129, u130, u131, u132, u133, u134, u135, u136, u137, u138, u139, u140, u141, u142, u143, u144, u145, u146, u147, u148, u149, u150, u151, u152, u153, u154, u155, u156, u157, u158, u159, u160, u161, u162, u163, u164, u165, u166, u167, u168, u169, u170, u171, u172, u173, u174, u175, u176, u177, u178, u179, u180, u181, u182, u183, u184, u185], []⟩ wr := by
  have hMr := hP.rp.hM
  have hBr := hP.lt
  have hl6 := hP.l6
  have hl7 := hP.l7
  have hlr := hP.lr
  have hlb := hP.lb
  have hgl := hst.low
  have hgw := hst.lt
  have td : wr.grownBy wr.drew (some rb) := mz_drew ⟨rfl, rfl, rfl, Nat.le_refl _, fun _ _ _ => rfl⟩
  have hPd := hP.copy (w' := wr.drew) (room' := rs) td hP.rp.rp (Int.le_refl _)
  have hSd := hst.grow td (fun q e => by cases e; exact ⟨hMr, by omega⟩)
  have hxd : ExR rb M wr.drew bb (oo + g1.len * 8) k1 s1 n1 op1 wn wa wb wc ns1 xa xb xc := ⟨hxe.lt, hxe.ne, hxe.c0, hxe.c1, hxe.c2, hxe.c3, hxe.c4, hxe.c5, hxe.c6, hxe.c7, hxe.ex.keep (show Keep (Old M) (Old M) wr wr.drew from fun g hg => ⟨hg, fun _ => rfl⟩)⟩
  have hgB : B7 ≠ g := by omega
  have hgb : bk ≠ g := by omega
  have HSP := Lib.hid (show (fun w' : World => w'.cell? ⟨B7, 5, none⟩ = some (.slice (some ⟨g, 0, none⟩) a.len cap1) ∧ w'.cell? ⟨bk, of + 5, none⟩ = some (.slice (some ⟨bb, oo, none⟩) a.len cc)) wr.drew from ⟨cell_of hPd.h7 5 _ rfl, hPd.ex.c5⟩)
  have HPd := Lib.hid hPd
  have HSd := Lib.hid hSd
  have HXd := Lib.hid hxd
  have HCn := Lib.hid (And.intro hcn hnd)
  have HC := Lib.hid hC
  have HO := Lib.hid hO
  obtain ⟨z, hz⟩ : ∃ z, repE x y o2 k1 s1 n1 op1 ns1 xa xb xc = z := ⟨_, rfl⟩
  rw [hz] at H
  have HZ := Lib.hid hz
  have HH := Lib.hid H
  have ho8 : g1.len * 8 + 8 ≤ a.len * (0 + 8) := by omega
  unfold maxLen at hcm
  clear hz hPd hSd hxd td hcn hnd hC hO H hP hst hxe hlr hlb hl6 hl7 hgw hBr hMr
  conv => arg 2; whnf
  refine region_pair (fun w' : World => w'.cell? ⟨B7, 5, none⟩ = some (.slice (some ⟨g, 0, none⟩) a.len cap1) ∧ w'.cell? ⟨bk, of + 5, none⟩ = some (.slice (some ⟨bb, oo, none⟩) a.len cc)) 11 13 (by kernel_rfl) (by kernel_rfl) hQ HSP.out ?_
  simp only [List.take_succ_cons, List.take_zero, List.drop_succ_cons, List.drop_zero, List.cons_append, List.nil_append, Nat.reduceSub, Nat.reduceAdd]
  refine hwk_want (v := ?_) (by rfl) ?_ ?_
  rotate_left 1
  · intro w' hSw
    try dsimp only at hSw
    go_simp
    all_goals (with_reducible rfl)
  try simp only [Act.put, List.setIfInBounds_toArray, List.set_cons_zero, List.set_cons_succ]
  refine hwk_want (v := ?_) (by rfl) ?_ ?_
  rotate_left 1
  · intro w' hSw
    try dsimp only at hSw
    go_simp
    all_goals (with_reducible rfl)
  try simp only [Act.put, List.setIfInBounds_toArray, List.set_cons_zero, List.set_cons_succ]
  refine hwk_want (v := ?_) (by rfl) ?_ ?_
  rotate_left 1
  · intro w' hSw
    try dsimp only at hSw
    go_simp
    all_goals (with_reducible rfl)
  try simp only [Act.put, List.setIfInBounds_toArray, List.set_cons_zero, List.set_cons_succ]
  refine hwk_want (v := ?_) (by rfl) ?_ ?_
  rotate_left 1
  · intro w' hSw
    try dsimp only at hSw
    go_simp
    all_goals (with_reducible rfl)
  try simp only [Act.put, List.setIfInBounds_toArray, List.set_cons_zero, List.set_cons_succ]
  refine hwk_want (v := ?_) (by rfl) ?_ ?_
  rotate_left 1
  · intro w' hSw
    try dsimp only at hSw
    go_simp
    all_goals (with_reducible rfl)
  try simp only [Act.put, List.setIfInBounds_toArray, List.set_cons_zero, List.set_cons_succ]
  refine hwk_want (v := ?_) (by rfl) ?_ ?_
  rotate_left 1
  · intro w' hSw
    try dsimp only at hSw
    go_simp
    all_goals (with_reducible rfl)
  try simp only [Act.put, List.setIfInBounds_toArray, List.set_cons_zero, List.set_cons_succ]
  refine hwk_want (v := ?_) (by rfl) ?_ ?_
  rotate_left 1
  · intro w' hSw
    try dsimp only at hSw
    go_simp
    all_goals (with_reducible rfl)
  try simp only [Act.put, List.setIfInBounds_toArray, List.set_cons_zero, List.set_cons_succ]
  refine hwk_want (v := ?_) (by rfl) ?_ ?_
  rotate_left 1
  · intro w' hSw
    try dsimp only at hSw
    go_simp
    all_goals (with_reducible rfl)
  try simp only [Act.put, List.setIfInBounds_toArray, List.set_cons_zero, List.set_cons_succ]
  refine hwk_want (v := ?_) (by rfl) ?_ ?_
  rotate_left 1
  · intro w' hSw
    try dsimp only at hSw
    go_simp
    all_goals (with_reducible rfl)
  try simp only [Act.put, List.setIfInBounds_toArray, List.set_cons_zero, List.set_cons_succ]
  refine hwk_want (v := ?_) (by rfl) ?_ ?_
  rotate_left 1
  · intro w' hSw
    try dsimp only at hSw
    go_simp
    all_goals (with_reducible rfl)
  try simp only [Act.put, List.setIfInBounds_toArray, List.set_cons_zero, List.set_cons_succ]
  refine hwk_want (v := ?_) (by rfl) ?_ ?_
  rotate_left 1
  · intro w' hSw
    try dsimp only at hSw
    go_simp
    all_goals (with_reducible rfl)
  try simp only [Act.put, List.setIfInBounds_toArray, List.set_cons_zero, List.set_cons_succ]
  refine hwk_nil ?_
  refine two_want rfl (by rfl) (fun K hK => ?_)
  replace hK := Lib.hid hK
  go_simp
  go_at_call 20
  have hcon := HC.out o2 HO.out bb (oo + g1.len * 8) k1 s1 n1 op1 _ _ _ _ ns1 xa xb xc wr.drew rs HCn.out.1.1 HXd.out HPd.out.rp HCn.out.1.2.2 HCn.out.1.2.1 HCn.out.2
  rw [HZ.out] at hcon
  refine hcon.mono ?_
  clear hcon
  rintro e w13 hpost
  obtain ⟨an13, cn13, aa13, ca13, ab13, cb13, ac13, cc13, rm13, rfl, hD13, hle13, hge13, hg13⟩ := part_done HPd.out HSd.out hlow hpost
  clear hpost
  have HS13 := Lib.hid (show (fun w' : World => w'.cell? ⟨B7, 5, none⟩ = some (.slice (some ⟨g, 0, none⟩) a.len cap1) ∧ w'.cell? ⟨bk, of + 5, none⟩ = some (.slice (some ⟨bb, oo, none⟩) a.len cc)) w13 from ⟨cell_of hD13.cp.h7 5 _ rfl, hD13.cp.ex.c5⟩)
  obtain ⟨⟨z0, z1, z2, z3, z4, z5, z6, z7, y0, y1, y2, y3, y4, y5, y6, y7⟩, fz⟩ := hD13.st.cells8 ho8
  have HD13 := Lib.hid hD13
  have HG13 := Lib.hid (And.intro hle13 (And.intro hge13 hg13))
  clear hD13 hle13 hge13 hg13
  refine hK.out _ _ HS13.out ?_
  clear hK K
  try simp only [Act.put, List.setIfInBounds_toArray, List.set_cons_zero, List.set_cons_succ]
  refine hwk_want (v := ?_) (by rfl) ?_ ?_
  rotate_left 1
  · intro w' hSw
    try dsimp only at hSw
    go_simp
    all_goals (with_reducible rfl)
  try simp only [Act.put, List.setIfInBounds_toArray, List.set_cons_zero, List.set_cons_succ]
  refine hwk_nil ?_
  refine last_want rfl (by rfl) (fun K hK => ?_)
  replace hK := Lib.hid hK
  go_simp
  refine hK.out _ _ ⟨(sets8_cell hgB).trans HS13.out.1, (sets8_cell hgb).trans HS13.out.2⟩ ?_
  clear hK K
  have hput := HD13.out.st.put0 (o := g1.len * 8) (by rw [hrf]) HD13.out.ex
  generalize hwE : World.setCell (World.setCell (World.setCell _ _ _) _ _) _ _ = wE
  have tE : w13.grownBy wE (some g) := by rw [← hwE]; exact sets8 (o := g1.len * 8)
  rw [hwE] at hput
  have hPE := HD13.out.cp.still tE (fun q e => by cases e; have := HD13.out.st.low; omega)
  exact HH.out _ _ _ _ _ _ _ _ _ _ _ _ _ w13 wE rm13 HG13.out.2.2 tE HD13.out.cp hPE hput HG13.out.1 HG13.out.2.1

set_option maxHeartbeats 4000000 in
set_option maxRecDepth 100000 in
theorem bind_round (M rb ybk yof : Nat) (x : List UInt8) (y : By) (YB n : Nat) (op o2 : Bool) (hC : ∀ o, (o = true → op = true) → CopyC M rb ybk yof x y YB o n) (hO : o2 = true → op = true)
    (W wr : World) (rs : Int) (B6 B7 bk of : Nat) (k : Int) (s : List UInt8) (nn op' : Int) (vn va vc : Value) (cc : Nat) (ns : List (List UInt8)) (a b c : Fx) (c4 c5 c7 : Value) (bb oo g cap1 lo : Nat)
    (g1 r : Fx) (t : List UInt8) (k1 : Int) (s1 : List UInt8) (n1 op1 : Int) (ns1 : List (List UInt8)) (xa xb xc : Fx) (rf : Fx) (hrf : rf.len = g1.len)
    (hP : CpW M rb ybk yof x y YB W wr rs B6 B7 bk of k s nn op' vn va (.slice (some ⟨bb, oo, none⟩) b.len cc) vc ns a b c c4 c5 (.slice (some ⟨g, 0, none⟩) b.len cap1) c7) (hst : RowSt M lo 38 1 wr g cap1 b.len rf (.cons (.bind t) k1 s1 n1 op1 ns1 xa xb xc r)) (hlow : B7 < lo)
    (wn wa wb wc : Value) (hxe : ExR rb M wr bb (oo + g1.len * 9 + 1) k1 s1 n1 op1 wn wa wb wc ns1 xa xb xc) (hbbM : bb < M)
    (hcn : (parts xa xb xc).count < n ∧ (parts xa xb xc).count ≤ 131072 ∧ costE ns1 xa xb xc ≤ 1048576) (hnd : (need YB o2 (parts xa xb xc).count : Int) ≤ rs) (hlt : g1.len < b.len) (hcl : b.len ≤ 1048576) (hlc : b.len ≤ cc) (hcm : cc ≤ maxLen)
    {Q : Exit → Act → World → Prop} (hQ : ∀ c a d v w, Q (.panic c) (a.put d v) w → Q (.panic c) a w) (u3 u4 u5 u6 u8 u10 u11 u12 u13 u14 u15 u16 u17 u18 u19 u20 u21 u22 u23 u24 u25 u26 u27 u28 u29 u30 u31 u32 u33 u34 u35 u36 u37 u38 u39 u40 u41 u42 u43 u44 u45 u46 u47 u48 u49 u50 u51 u52 u53 u54 u55 u56 u57 u58 u59 u60 u61 u62 u63 u64 u65 u66 u67 u68 u69 u70 u71 u72 u73 u74 u75 u76 u77 u78 u79 u80 u81 u82 u83 u84 u85 u86 u87 u88 u89 u90 u91 u92 u93 u94 u95 u96 u97 u98 u99 u100 u101 u102 u103 u104 u105 u106 u107 u108 u109 u110 u111 u112 u113 u114 u115 u116 u117 u118 u119 u120 u121 u122 u123 u124 u125 u126 u127 u128 u129 u130 u131 u132 u133 u134 u135 u136 u137 u138 u139 u140 u141 u142 u143 u144 u145 u146 u147 u148 u149 u150 u151 u152 u153 u154 u155 u156 u157 u158 u159 u160 u161 u162 u163 u164 u165 u166 u167 u168 u169 u170 u171 u172 u173 u174 u175 u176 u177 u178 u179 u180 u181 u182 u183 u184 u185 : Value)
    (H : ∀ (x129 x130 x131 x132 x133 x134 x135 x136 x137 x138 x139 x140 x141 x142 x143 : Value) (w13 wE : World) (rm13 : Int), wr.drew.grownBy w13 (some rb) → w13.grownBy wE (some g) → CpW M rb ybk yof x y YB W w13 rm13 B6 B7 bk of k s nn op' vn va (.slice (some ⟨bb, oo, none⟩) b.len cc) vc ns a b c c4 c5 (.slice (some ⟨g, 0, none⟩) b.len cap1) c7 → CpW M rb ybk yof x y YB W wE rm13 B6 B7 bk of k s nn op' vn va (.slice (some ⟨bb, oo, none⟩) b.len cc) vc ns a b c c4 c5 (.slice (some ⟨g, 0, none⟩) b.len cap1) c7 →
      RowSt M lo 38 1 wE g cap1 b.len (rf.app ((repE x y o2 k1 s1 n1 op1 ns1 xa xb xc).fx (.bind t) .nil)) r → rs - need YB o2 (parts xa xb xc).count ≤ rm13 → rm13 ≤ rs → Q .normal ⟨#[.pointer (some ⟨rb, 0, none⟩), .pointer (some ⟨bk, of, none⟩), .bool o2, u3, u4, u5, u6, .pointer (some ⟨B7, 0, none⟩), u8, .int .i64 g1.len, u10, u11, u12, u13, u14, u15, u16, u17, u18, u19, u20, u21, u22, u23, u24, u25, u26, u27, u28, u29, u30, u31, u32, u33, u34, u35, u36, u37, u38, u39, u40, u41, u42, u43, u44, u45, u46, u47, u48, u49, u50, u51, u52, u53, u54, u55, u56, u57, u58, u59, u60, u61, u62, u63, u64, u65, u66, u67, u68, u69, u70, u71, u72, u73, u74, u75, u76, u77, u78, u79, u80, u81, u82, u83, u84, u85, u86, u87, u88, u89, u90, u91, u92, u93, u94, u95, u96, u97, u98, u99, u100, u101, u102, u103, u104, u105, u106, u107, u108, u109, u110, u111, u112, u113, u114, u115, u116, u117, u118, u119, u120, u121, u122, u123, u124, u125, u126, u127, u128, x129, x130, x131, x132, x133, x134, x135, x136, x137, x138, x139, x140, x141, x142, x143, u144, u145, u146, u147, u148, u149, u150, u151, u152, u153, u154, u155, u156, u157, u158, u159, u160, u161, u162, u163, u164, u165, u166, u167, u168, u169, u170, u171, u172, u173, u174, u175, u176, u177, u178, u179, u180, u181, u182, u183, u184, u185], []⟩ wE) :
    cpR19.wp Tryz.prog Q ⟨#[.pointer (some ⟨rb, 0, none⟩), .pointer (some ⟨bk, of, none⟩), .bool o2, u3, u4, u5, u6, .pointer (some ⟨B7, 0, none⟩), u8, .int .i64 g1.len, u10, u11, u12, u13, u14, u15, u16, u17, u18, u19, u20, u21, u22, u23, u24, u25, u26, u27, u28, u29, u30, u31, u32, u33, u34, u35, u36, u37, u38, u39, u40, u41, u42, u43, u44, u45, u46, u47, u48, u49, u50, u51, u52, u53, u54, u55, u56, u57, u58, u59, u60, u61, u62, u63, u64, u65, u66, u67, u68, u69, u70, u71, u72, u73, u74, u75, u76, u77, u78, u79, u80, u81, u82, u83, u84, u85, u86, u87, u88, u89, u90, u91, u92, u93, u94, u95, u96, u97, u98, u99, u100, u101, u102, u103, u104, u105, u106, u107, u108, u109, u110, u111, u112, u113, u114, u115, u116, u117, u118, u119, u120, u121, u122, u123, u124, u125, u126, u127, u128, u129, u130, u131, u132, u133, u134, u135, u136, u137, u138, u139, u140, u141, u142, u143, u144, u145, u146, u147, u148, u149, u150, u151, u152, u153, u154, u155, u156, u157, u158, u159, u160, u161, u162, u163, u164, u165, u166, u167, u168, u169, u170, u171, u172, u173, u174, u175, u176, u177, u178, u179, u180, u181, u182, u183, u184, u185], []⟩ wr := by
  have hMr := hP.rp.hM
  have hBr := hP.lt
  have hl6 := hP.l6
  have hl7 := hP.l7
  have hlr := hP.lr
  have hlb := hP.lb
  have hgl := hst.low
  have hgw := hst.lt
  have td : wr.grownBy wr.drew (some rb) := mz_drew ⟨rfl, rfl, rfl, Nat.le_refl _, fun _ _ _ => rfl⟩
  have hPd := hP.copy (w' := wr.drew) (room' := rs) td hP.rp.rp (Int.le_refl _)
  have hSd := hst.grow td (fun q e => by cases e; exact ⟨hMr, by omega⟩)
  have hxd : ExR rb M wr.drew bb (oo + g1.len * 9 + 1) k1 s1 n1 op1 wn wa wb wc ns1 xa xb xc := ⟨hxe.lt, hxe.ne, hxe.c0, hxe.c1, hxe.c2, hxe.c3, hxe.c4, hxe.c5, hxe.c6, hxe.c7, hxe.ex.keep (show Keep (Old M) (Old M) wr wr.drew from fun g hg => ⟨hg, fun _ => rfl⟩)⟩
  have hgB : B7 ≠ g := by omega
  have hgb : bk ≠ g := by omega
  have HSP := Lib.hid (show (fun w' : World => w'.cell? ⟨B7, 6, none⟩ = some (.slice (some ⟨g, 0, none⟩) b.len cap1) ∧ w'.cell? ⟨bk, of + 6, none⟩ = some (.slice (some ⟨bb, oo, none⟩) b.len cc)) wr.drew from ⟨cell_of hPd.h7 6 _ rfl, hPd.ex.c6⟩)
  have HPd := Lib.hid hPd
  have HSd := Lib.hid hSd
  have HXd := Lib.hid hxd
  have HCn := Lib.hid (And.intro hcn hnd)
  have HC := Lib.hid hC
  have HO := Lib.hid hO
  obtain ⟨z, hz⟩ : ∃ z, repE x y o2 k1 s1 n1 op1 ns1 xa xb xc = z := ⟨_, rfl⟩
  rw [hz] at H
  have HZ := Lib.hid hz
  have HH := Lib.hid H
  have ho8 : g1.len * 9 + 1 + 8 ≤ b.len * (1 + 8) := by omega
  unfold maxLen at hcm
  clear hz hPd hSd hxd td hcn hnd hC hO H hP hst hxe hlr hlb hl6 hl7 hgw hBr hMr
  conv => arg 2; whnf
  refine region_pair (fun w' : World => w'.cell? ⟨B7, 6, none⟩ = some (.slice (some ⟨g, 0, none⟩) b.len cap1) ∧ w'.cell? ⟨bk, of + 6, none⟩ = some (.slice (some ⟨bb, oo, none⟩) b.len cc)) 12 15 (by kernel_rfl) (by kernel_rfl) hQ HSP.out ?_
  simp only [List.take_succ_cons, List.take_zero, List.drop_succ_cons, List.drop_zero, List.cons_append, List.nil_append, Nat.reduceSub, Nat.reduceAdd]
  refine hwk_want (v := ?_) (by rfl) ?_ ?_
  rotate_left 1
  · intro w' hSw
    try dsimp only at hSw
    go_simp
    all_goals (with_reducible rfl)
  try simp only [Act.put, List.setIfInBounds_toArray, List.set_cons_zero, List.set_cons_succ]
  refine hwk_want (v := ?_) (by rfl) ?_ ?_
  rotate_left 1
  · intro w' hSw
    try dsimp only at hSw
    go_simp
    all_goals (with_reducible rfl)
  try simp only [Act.put, List.setIfInBounds_toArray, List.set_cons_zero, List.set_cons_succ]
  refine hwk_want (v := ?_) (by rfl) ?_ ?_
  rotate_left 1
  · intro w' hSw
    try dsimp only at hSw
    go_simp
    all_goals (with_reducible rfl)
  try simp only [Act.put, List.setIfInBounds_toArray, List.set_cons_zero, List.set_cons_succ]
  refine hwk_want (v := ?_) (by rfl) ?_ ?_
  rotate_left 1
  · intro w' hSw
    try dsimp only at hSw
    go_simp
    all_goals (with_reducible rfl)
  try simp only [Act.put, List.setIfInBounds_toArray, List.set_cons_zero, List.set_cons_succ]
  refine hwk_want (v := ?_) (by rfl) ?_ ?_
  rotate_left 1
  · intro w' hSw
    try dsimp only at hSw
    go_simp
    all_goals (with_reducible rfl)
  try simp only [Act.put, List.setIfInBounds_toArray, List.set_cons_zero, List.set_cons_succ]
  refine hwk_want (v := ?_) (by rfl) ?_ ?_
  rotate_left 1
  · intro w' hSw
    try dsimp only at hSw
    go_simp
    all_goals (with_reducible rfl)
  try simp only [Act.put, List.setIfInBounds_toArray, List.set_cons_zero, List.set_cons_succ]
  refine hwk_want (v := ?_) (by rfl) ?_ ?_
  rotate_left 1
  · intro w' hSw
    try dsimp only at hSw
    go_simp
    all_goals (with_reducible rfl)
  try simp only [Act.put, List.setIfInBounds_toArray, List.set_cons_zero, List.set_cons_succ]
  refine hwk_want (v := ?_) (by rfl) ?_ ?_
  rotate_left 1
  · intro w' hSw
    try dsimp only at hSw
    go_simp
    all_goals (with_reducible rfl)
  try simp only [Act.put, List.setIfInBounds_toArray, List.set_cons_zero, List.set_cons_succ]
  refine hwk_want (v := ?_) (by rfl) ?_ ?_
  rotate_left 1
  · intro w' hSw
    try dsimp only at hSw
    go_simp
    all_goals (with_reducible rfl)
  try simp only [Act.put, List.setIfInBounds_toArray, List.set_cons_zero, List.set_cons_succ]
  refine hwk_want (v := ?_) (by rfl) ?_ ?_
  rotate_left 1
  · intro w' hSw
    try dsimp only at hSw
    go_simp
    all_goals (with_reducible rfl)
  try simp only [Act.put, List.setIfInBounds_toArray, List.set_cons_zero, List.set_cons_succ]
  refine hwk_want (v := ?_) (by rfl) ?_ ?_
  rotate_left 1
  · intro w' hSw
    try dsimp only at hSw
    go_simp
    all_goals (with_reducible rfl)
  try simp only [Act.put, List.setIfInBounds_toArray, List.set_cons_zero, List.set_cons_succ]
  refine hwk_want (v := ?_) (by rfl) ?_ ?_
  rotate_left 1
  · intro w' hSw
    try dsimp only at hSw
    go_simp
    all_goals (with_reducible rfl)
  try simp only [Act.put, List.setIfInBounds_toArray, List.set_cons_zero, List.set_cons_succ]
  refine hwk_nil ?_
  refine two_want rfl (by rfl) (fun K hK => ?_)
  replace hK := Lib.hid hK
  go_simp
  go_at_call 20
  have hcon := HC.out o2 HO.out bb (oo + g1.len * 9 + 1) k1 s1 n1 op1 _ _ _ _ ns1 xa xb xc wr.drew rs HCn.out.1.1 HXd.out HPd.out.rp HCn.out.1.2.2 HCn.out.1.2.1 HCn.out.2
  rw [HZ.out] at hcon
  refine hcon.mono ?_
  clear hcon
  rintro e w13 hpost
  obtain ⟨an13, cn13, aa13, ca13, ab13, cb13, ac13, cc13, rm13, rfl, hD13, hle13, hge13, hg13⟩ := part_done HPd.out HSd.out hlow hpost
  clear hpost
  have HS13 := Lib.hid (show (fun w' : World => w'.cell? ⟨B7, 6, none⟩ = some (.slice (some ⟨g, 0, none⟩) b.len cap1) ∧ w'.cell? ⟨bk, of + 6, none⟩ = some (.slice (some ⟨bb, oo, none⟩) b.len cc)) w13 from ⟨cell_of hD13.cp.h7 6 _ rfl, hD13.cp.ex.c6⟩)
  obtain ⟨⟨z0, z1, z2, z3, z4, z5, z6, z7, y0, y1, y2, y3, y4, y5, y6, y7⟩, fz⟩ := hD13.st.cells8 ho8
  have HD13 := Lib.hid hD13
  have HG13 := Lib.hid (And.intro hle13 (And.intro hge13 hg13))
  clear hD13 hle13 hge13 hg13
  refine hK.out _ _ HS13.out ?_
  clear hK K
  try simp only [Act.put, List.setIfInBounds_toArray, List.set_cons_zero, List.set_cons_succ]
  refine hwk_want (v := ?_) (by rfl) ?_ ?_
  rotate_left 1
  · intro w' hSw
    try dsimp only at hSw
    go_simp
    all_goals (with_reducible rfl)
  try simp only [Act.put, List.setIfInBounds_toArray, List.set_cons_zero, List.set_cons_succ]
  refine hwk_want (v := ?_) (by rfl) ?_ ?_
  rotate_left 1
  · intro w' hSw
    try dsimp only at hSw
    go_simp
    all_goals (with_reducible rfl)
  try simp only [Act.put, List.setIfInBounds_toArray, List.set_cons_zero, List.set_cons_succ]
  refine hwk_nil ?_
  refine last_want rfl (by rfl) (fun K hK => ?_)
  replace hK := Lib.hid hK
  go_simp
  refine hK.out _ _ ⟨(sets8_cell hgB).trans HS13.out.1, (sets8_cell hgb).trans HS13.out.2⟩ ?_
  clear hK K
  have hput := HD13.out.st.put1 (o := g1.len * 9 + 1) (by rw [hrf]) HD13.out.ex
  generalize hwE : World.setCell (World.setCell (World.setCell _ _ _) _ _) _ _ = wE
  have tE : w13.grownBy wE (some g) := by rw [← hwE]; exact sets8 (o := g1.len * 9 + 1)
  rw [hwE] at hput
  have hPE := HD13.out.cp.still tE (fun q e => by cases e; have := HD13.out.st.low; omega)
  exact HH.out _ _ _ _ _ _ _ _ _ _ _ _ _ _ _ w13 wE rm13 HG13.out.2.2 tE HD13.out.cp hPE hput HG13.out.1 HG13.out.2.1

set_option maxHeartbeats 4000000 in
set_option maxRecDepth 100000 in
theorem open_in (M rb bk of : Nat) (x : List UInt8) (ya : Addr) (yb room : Int) (an : Option Addr) (cn : Nat) (ns : List (List UInt8)) (ab : Option Addr) (cb : Nat) (b : Fx) (wb : World)
    (r0 : wb.cell? ⟨rb, 0, none⟩ = some (.string (bt x))) (e4 : wb.cell? ⟨bk, of + 4, none⟩ = some (.slice an ns.length cn)) (e6 : wb.cell? ⟨bk, of + 6, none⟩ = some (.slice ab b.len cb)) (hrb : rb < wb.heap.size) (hbk : bk < wb.heap.size)
    (hN : NsV (Old M) wb.drew (.slice an ns.length cn) ns) (hB : FxV (Old M) wb.drew 1 (.slice ab b.len cb) b) (hR : RpAt wb.drew rb x ya yb room) (hns : ns.length ≤ 1048576) (hbl : b.len ≤ 1048576) (hMc : M ≤ wb.drew.heap.size) (hm : x ∈ ns)
    {Q : Exit → Act → World → Prop} (hQ : ∀ c a d v w, Q (.panic c) (a.put d v) w → Q (.panic c) a w) (u3 u4 u5 u6 u7 u8 u9 u10 u11 u12 u13 u14 u15 u16 u17 u18 u19 u20 u21 u22 u23 u24 u25 u26 u27 u28 u29 u30 u31 u32 u33 u34 u35 u36 u37 u38 u39 u40 u41 u42 u43 u44 u45 u46 u47 u48 u49 u50 u51 u52 u53 u54 u55 u56 u57 u58 u59 u60 u61 u62 u63 u64 u65 u66 u67 u68 u69 u70 u71 u72 u73 u74 u75 u76 u77 u78 u79 u80 u81 u82 u83 u84 u85 u86 u87 u88 u89 u90 u91 u92 u93 u94 u95 u96 u97 u98 u99 u100 u101 u102 u103 u104 u105 u106 u107 u108 u109 u110 u111 u112 u113 u114 u115 u116 u117 u118 u119 u120 u121 u122 u123 u124 u125 u126 u127 u128 u129 u130 u131 u132 u133 u134 u135 u136 u137 u138 u139 u140 u141 u142 u143 u144 u145 u146 u147 u148 u149 u150 u151 u152 u153 u154 u155 u156 u157 u158 u159 u160 u161 u162 u163 u164 u165 u166 u167 u168 u169 u170 u171 u172 u173 u174 u175 u176 u177 u178 u179 u180 u181 u182 u183 u184 u185 : Value)
    (H : ∀ (x55 x56 x57 x58 x59 x60 x61 x62 x63 x64 x65 x66 x67 x68 x69 x70 x71 x72 x73 x74 x75 x76 x77 : Value) (wE : World), Below wb.heap.size wb wE → Q .normal ⟨#[.pointer (some ⟨rb, 0, none⟩), .pointer (some ⟨bk, of, none⟩), .bool (!decide (x ∈ ns) && !bindsX x b), u3, u4, u5, u6, u7, u8, u9, u10, u11, u12, u13, u14, u15, u16, u17, u18, u19, u20, u21, u22, u23, u24, u25, u26, u27, u28, u29, u30, u31, u32, u33, u34, u35, u36, u37, u38, u39, u40, u41, u42, u43, u44, u45, u46, u47, u48, u49, u50, u51, u52, u53, u54, x55, x56, x57, x58, x59, x60, x61, x62, x63, x64, x65, x66, x67, x68, x69, x70, x71, x72, x73, x74, x75, x76, x77, u78, u79, u80, u81, u82, u83, u84, u85, u86, u87, u88, u89, u90, u91, u92, u93, u94, u95, u96, u97, u98, u99, u100, u101, u102, u103, u104, u105, u106, u107, u108, u109, u110, u111, u112, u113, u114, u115, u116, u117, u118, u119, u120, u121, u122, u123, u124, u125, u126, u127, u128, u129, u130, u131, u132, u133, u134, u135, u136, u137, u138, u139, u140, u141, u142, u143, u144, u145, u146, u147, u148, u149, u150, u151, u152, u153, u154, u155, u156, u157, u158, u159, u160, u161, u162, u163, u164, u165, u166, u167, u168, u169, u170, u171, u172, u173, u174, u175, u176, u177, u178, u179, u180, u181, u182, u183, u184, u185], []⟩ wE) : cpR6.wp Tryz.prog Q ⟨#[.pointer (some ⟨rb, 0, none⟩), .pointer (some ⟨bk, of, none⟩), .bool true, u3, u4, u5, u6, u7, u8, u9, u10, u11, u12, u13, u14, u15, u16, u17, u18, u19, u20, u21, u22, u23, u24, u25, u26, u27, u28, u29, u30, u31, u32, u33, u34, u35, u36, u37, u38, u39, u40, u41, u42, u43, u44, u45, u46, u47, u48, u49, u50, u51, u52, u53, u54, u55, u56, u57, u58, u59, u60, u61, u62, u63, u64, u65, u66, u67, u68, u69, u70, u71, u72, u73, u74, u75, u76, u77, u78, u79, u80, u81, u82, u83, u84, u85, u86, u87, u88, u89, u90, u91, u92, u93, u94, u95, u96, u97, u98, u99, u100, u101, u102, u103, u104, u105, u106, u107, u108, u109, u110, u111, u112, u113, u114, u115, u116, u117, u118, u119, u120, u121, u122, u123, u124, u125, u126, u127, u128, u129, u130, u131, u132, u133, u134, u135, u136, u137, u138, u139, u140, u141, u142, u143, u144, u145, u146, u147, u148, u149, u150, u151, u152, u153, u154, u155, u156, u157, u158, u159, u160, u161, u162, u163, u164, u165, u166, u167, u168, u169, u170, u171, u172, u173, u174, u175, u176, u177, u178, u179, u180, u181, u182, u183, u184, u185], []⟩ wb := by
  have HSP := Lib.hid (show (fun w' : World => w'.cell? ⟨rb, 0, none⟩ = some (.string (bt x)) ∧ w'.cell? ⟨bk, of + 4, none⟩ = some (.slice an ns.length cn) ∧ w'.cell? ⟨bk, of + 6, none⟩ = some (.slice ab b.len cb)) wb.drew from ⟨r0, e4, e6⟩)
  have HSB := Lib.hid (show ∀ w', Below wb.heap.size wb w' → (fun w' : World => w'.cell? ⟨rb, 0, none⟩ = some (.string (bt x)) ∧ w'.cell? ⟨bk, of + 4, none⟩ = some (.slice an ns.length cn) ∧ w'.cell? ⟨bk, of + 6, none⟩ = some (.slice ab b.len cb)) w' from fun w' h => ⟨(h.cell (p := ⟨rb, 0, none⟩) hrb).trans r0, (h.cell (p := ⟨bk, of + 4, none⟩) hbk).trans e4, (h.cell (p := ⟨bk, of + 6, none⟩) hbk).trans e6⟩)
  have HN := Lib.hid hN
  have HB := Lib.hid hB
  have HR := Lib.hid hR
  have hd : decide (x ∈ ns) = true := by simpa using hm
  rw [hd] at H
  have HH := Lib.hid H
  clear hN hB hR H r0 e4 e6 hm
  conv => arg 2; whnf
  refine region_seg (fun w' : World => w'.cell? ⟨rb, 0, none⟩ = some (.string (bt x)) ∧ w'.cell? ⟨bk, of + 4, none⟩ = some (.slice an ns.length cn) ∧ w'.cell? ⟨bk, of + 6, none⟩ = some (.slice ab b.len cb)) [([(0, 10)], 10), ([(11, 9)], 20)] [(21, 3)] (by kernel_rfl) (by kernel_rfl) hQ HSP.out ?_
  refine segw_go ?_
  simp only [opsOf, List.take_succ_cons, List.take_zero, List.drop_succ_cons, List.drop_zero, List.cons_append, List.nil_append, List.append_nil]
  refine hwk_want (v := ?_) (by rfl) ?_ ?_
  rotate_left 1
  · intro w' hSw
    try dsimp only at hSw
    go_simp
    all_goals (with_reducible rfl)
  try simp only [Act.put, List.setIfInBounds_toArray, List.set_cons_zero, List.set_cons_succ]
  refine hwk_want (v := ?_) (by rfl) ?_ ?_
  rotate_left 1
  · intro w' hSw
    try dsimp only at hSw
    go_simp
    all_goals (with_reducible rfl)
  try simp only [Act.put, List.setIfInBounds_toArray, List.set_cons_zero, List.set_cons_succ]
  refine hwk_want (v := ?_) (by rfl) ?_ ?_
  rotate_left 1
  · intro w' hSw
    try dsimp only at hSw
    go_simp
    all_goals (with_reducible rfl)
  try simp only [Act.put, List.setIfInBounds_toArray, List.set_cons_zero, List.set_cons_succ]
  refine hwk_want (v := ?_) (by rfl) ?_ ?_
  rotate_left 1
  · intro w' hSw
    try dsimp only at hSw
    go_simp
    all_goals (with_reducible rfl)
  try simp only [Act.put, List.setIfInBounds_toArray, List.set_cons_zero, List.set_cons_succ]
  refine hwk_want (v := ?_) (by rfl) ?_ ?_
  rotate_left 1
  · intro w' hSw
    try dsimp only at hSw
    go_simp
    all_goals (with_reducible rfl)
  try simp only [Act.put, List.setIfInBounds_toArray, List.set_cons_zero, List.set_cons_succ]
  refine hwk_want (v := ?_) (by rfl) ?_ ?_
  rotate_left 1
  · intro w' hSw
    try dsimp only at hSw
    go_simp
    all_goals (with_reducible rfl)
  try simp only [Act.put, List.setIfInBounds_toArray, List.set_cons_zero, List.set_cons_succ]
  refine hwk_want (v := ?_) (by rfl) ?_ ?_
  rotate_left 1
  · intro w' hSw
    try dsimp only at hSw
    go_simp
    all_goals (with_reducible rfl)
  try simp only [Act.put, List.setIfInBounds_toArray, List.set_cons_zero, List.set_cons_succ]
  refine hwk_want (v := ?_) (by rfl) ?_ ?_
  rotate_left 1
  · intro w' hSw
    try dsimp only at hSw
    go_simp
    all_goals (with_reducible rfl)
  try simp only [Act.put, List.setIfInBounds_toArray, List.set_cons_zero, List.set_cons_succ]
  refine hwk_want (v := ?_) (by rfl) ?_ ?_
  rotate_left 1
  · intro w' hSw
    try dsimp only at hSw
    go_simp
    all_goals (with_reducible rfl)
  try simp only [Act.put, List.setIfInBounds_toArray, List.set_cons_zero, List.set_cons_succ]
  refine hwk_want (v := ?_) (by rfl) ?_ ?_
  rotate_left 1
  · intro w' hSw
    try dsimp only at hSw
    go_simp
    all_goals (with_reducible rfl)
  try simp only [Act.put, List.setIfInBounds_toArray, List.set_cons_zero, List.set_cons_succ]
  refine hwk_nil ?_
  refine segk_want rfl (by rfl) (fun K hK => ?_)
  replace hK := Lib.hid hK
  go_simp
  go_at_call 35
  refine (contains_any _ ns x _ M hns HN.out).mono ?_
  rintro e w5 ⟨rfl, rfl⟩
  rw [hd]
  refine hK.out _ _ HSP.out ?_
  clear hK K
  try simp only [Act.put, List.setIfInBounds_toArray, List.set_cons_zero, List.set_cons_succ]
  refine segw_go ?_
  simp only [opsOf, List.take_succ_cons, List.take_zero, List.drop_succ_cons, List.drop_zero, List.cons_append, List.nil_append, List.append_nil]
  refine hwk_want (v := ?_) (by rfl) ?_ ?_
  rotate_left 1
  · intro w' hSw
    try dsimp only at hSw
    go_simp
    all_goals (with_reducible rfl)
  try simp only [Act.put, List.setIfInBounds_toArray, List.set_cons_zero, List.set_cons_succ]
  refine hwk_want (v := ?_) (by rfl) ?_ ?_
  rotate_left 1
  · intro w' hSw
    try dsimp only at hSw
    go_simp
    all_goals (with_reducible rfl)
  try simp only [Act.put, List.setIfInBounds_toArray, List.set_cons_zero, List.set_cons_succ]
  refine hwk_want (v := ?_) (by rfl) ?_ ?_
  rotate_left 1
  · intro w' hSw
    try dsimp only at hSw
    go_simp
    all_goals (with_reducible rfl)
  try simp only [Act.put, List.setIfInBounds_toArray, List.set_cons_zero, List.set_cons_succ]
  refine hwk_skip (by kernel_rfl) ?_
  try simp only [Act.put, List.setIfInBounds_toArray, List.set_cons_zero, List.set_cons_succ]
  refine hwk_skip (by kernel_rfl) ?_
  try simp only [Act.put, List.setIfInBounds_toArray, List.set_cons_zero, List.set_cons_succ]
  refine hwk_skip (by kernel_rfl) ?_
  try simp only [Act.put, List.setIfInBounds_toArray, List.set_cons_zero, List.set_cons_succ]
  refine hwk_skip (by kernel_rfl) ?_
  try simp only [Act.put, List.setIfInBounds_toArray, List.set_cons_zero, List.set_cons_succ]
  refine hwk_skip (by kernel_rfl) ?_
  try simp only [Act.put, List.setIfInBounds_toArray, List.set_cons_zero, List.set_cons_succ]
  refine hwk_skip (by kernel_rfl) ?_
  try simp only [Act.put, List.setIfInBounds_toArray, List.set_cons_zero, List.set_cons_succ]
  refine hwk_nil ?_
  refine segk_skip rfl (by kernel_rfl) HSP.out ?_
  try simp only [Act.put, List.setIfInBounds_toArray, List.set_cons_zero, List.set_cons_succ]
  refine segw_end ?_
  simp only [opsOf, List.take_succ_cons, List.take_zero, List.drop_succ_cons, List.drop_zero, List.cons_append, List.nil_append, List.append_nil]
  refine hwk_skip (by kernel_rfl) ?_
  try simp only [Act.put, List.setIfInBounds_toArray, List.set_cons_zero, List.set_cons_succ]
  refine hwk_want (v := ?_) (by rfl) ?_ ?_
  rotate_left 1
  · intro w' hSw
    try dsimp only at hSw
    go_simp
    all_goals (with_reducible rfl)
  try simp only [Act.put, List.setIfInBounds_toArray, List.set_cons_zero, List.set_cons_succ]
  refine hwk_want (v := ?_) (by rfl) ?_ ?_
  rotate_left 1
  · intro w' hSw
    try dsimp only at hSw
    go_simp
    all_goals (with_reducible rfl)
  try simp only [Act.put, List.setIfInBounds_toArray, List.set_cons_zero, List.set_cons_succ]
  refine hwk_nil ?_
  exact HH.out _ _ _ _ _ _ _ _ _ _ _ _ _ _ _ _ _ _ _ _ _ _ _ wb.drew (below_same (Below.refl _ _) rfl rfl rfl rfl)

set_option maxHeartbeats 4000000 in
set_option maxRecDepth 100000 in
theorem open_out (M rb bk of : Nat) (x : List UInt8) (ya : Addr) (yb room : Int) (an : Option Addr) (cn : Nat) (ns : List (List UInt8)) (ab : Option Addr) (cb : Nat) (b : Fx) (wb : World)
    (r0 : wb.cell? ⟨rb, 0, none⟩ = some (.string (bt x))) (e4 : wb.cell? ⟨bk, of + 4, none⟩ = some (.slice an ns.length cn)) (e6 : wb.cell? ⟨bk, of + 6, none⟩ = some (.slice ab b.len cb)) (hrb : rb < wb.heap.size) (hbk : bk < wb.heap.size)
    (hN : NsV (Old M) wb.drew (.slice an ns.length cn) ns) (hB : FxV (Old M) wb.drew 1 (.slice ab b.len cb) b) (hR : RpAt wb.drew rb x ya yb room) (hns : ns.length ≤ 1048576) (hbl : b.len ≤ 1048576) (hMc : M ≤ wb.drew.heap.size) (hm : x ∉ ns)
    {Q : Exit → Act → World → Prop} (hQ : ∀ c a d v w, Q (.panic c) (a.put d v) w → Q (.panic c) a w) (u3 u4 u5 u6 u7 u8 u9 u10 u11 u12 u13 u14 u15 u16 u17 u18 u19 u20 u21 u22 u23 u24 u25 u26 u27 u28 u29 u30 u31 u32 u33 u34 u35 u36 u37 u38 u39 u40 u41 u42 u43 u44 u45 u46 u47 u48 u49 u50 u51 u52 u53 u54 u55 u56 u57 u58 u59 u60 u61 u62 u63 u64 u65 u66 u67 u68 u69 u70 u71 u72 u73 u74 u75 u76 u77 u78 u79 u80 u81 u82 u83 u84 u85 u86 u87 u88 u89 u90 u91 u92 u93 u94 u95 u96 u97 u98 u99 u100 u101 u102 u103 u104 u105 u106 u107 u108 u109 u110 u111 u112 u113 u114 u115 u116 u117 u118 u119 u120 u121 u122 u123 u124 u125 u126 u127 u128 u129 u130 u131 u132 u133 u134 u135 u136 u137 u138 u139 u140 u141 u142 u143 u144 u145 u146 u147 u148 u149 u150 u151 u152 u153 u154 u155 u156 u157 u158 u159 u160 u161 u162 u163 u164 u165 u166 u167 u168 u169 u170 u171 u172 u173 u174 u175 u176 u177 u178 u179 u180 u181 u182 u183 u184 u185 : Value)
    (H : ∀ (x55 x56 x57 x58 x59 x60 x61 x62 x63 x64 x65 x66 x67 x68 x69 x70 x71 x72 x73 x74 x75 x76 x77 : Value) (wE : World), Below wb.heap.size wb wE → Q .normal ⟨#[.pointer (some ⟨rb, 0, none⟩), .pointer (some ⟨bk, of, none⟩), .bool (!decide (x ∈ ns) && !bindsX x b), u3, u4, u5, u6, u7, u8, u9, u10, u11, u12, u13, u14, u15, u16, u17, u18, u19, u20, u21, u22, u23, u24, u25, u26, u27, u28, u29, u30, u31, u32, u33, u34, u35, u36, u37, u38, u39, u40, u41, u42, u43, u44, u45, u46, u47, u48, u49, u50, u51, u52, u53, u54, x55, x56, x57, x58, x59, x60, x61, x62, x63, x64, x65, x66, x67, x68, x69, x70, x71, x72, x73, x74, x75, x76, x77, u78, u79, u80, u81, u82, u83, u84, u85, u86, u87, u88, u89, u90, u91, u92, u93, u94, u95, u96, u97, u98, u99, u100, u101, u102, u103, u104, u105, u106, u107, u108, u109, u110, u111, u112, u113, u114, u115, u116, u117, u118, u119, u120, u121, u122, u123, u124, u125, u126, u127, u128, u129, u130, u131, u132, u133, u134, u135, u136, u137, u138, u139, u140, u141, u142, u143, u144, u145, u146, u147, u148, u149, u150, u151, u152, u153, u154, u155, u156, u157, u158, u159, u160, u161, u162, u163, u164, u165, u166, u167, u168, u169, u170, u171, u172, u173, u174, u175, u176, u177, u178, u179, u180, u181, u182, u183, u184, u185], []⟩ wE) : cpR6.wp Tryz.prog Q ⟨#[.pointer (some ⟨rb, 0, none⟩), .pointer (some ⟨bk, of, none⟩), .bool true, u3, u4, u5, u6, u7, u8, u9, u10, u11, u12, u13, u14, u15, u16, u17, u18, u19, u20, u21, u22, u23, u24, u25, u26, u27, u28, u29, u30, u31, u32, u33, u34, u35, u36, u37, u38, u39, u40, u41, u42, u43, u44, u45, u46, u47, u48, u49, u50, u51, u52, u53, u54, u55, u56, u57, u58, u59, u60, u61, u62, u63, u64, u65, u66, u67, u68, u69, u70, u71, u72, u73, u74, u75, u76, u77, u78, u79, u80, u81, u82, u83, u84, u85, u86, u87, u88, u89, u90, u91, u92, u93, u94, u95, u96, u97, u98, u99, u100, u101, u102, u103, u104, u105, u106, u107, u108, u109, u110, u111, u112, u113, u114, u115, u116, u117, u118, u119, u120, u121, u122, u123, u124, u125, u126, u127, u128, u129, u130, u131, u132, u133, u134, u135, u136, u137, u138, u139, u140, u141, u142, u143, u144, u145, u146, u147, u148, u149, u150, u151, u152, u153, u154, u155, u156, u157, u158, u159, u160, u161, u162, u163, u164, u165, u166, u167, u168, u169, u170, u171, u172, u173, u174, u175, u176, u177, u178, u179, u180, u181, u182, u183, u184, u185], []⟩ wb := by
  have HSP := Lib.hid (show (fun w' : World => w'.cell? ⟨rb, 0, none⟩ = some (.string (bt x)) ∧ w'.cell? ⟨bk, of + 4, none⟩ = some (.slice an ns.length cn) ∧ w'.cell? ⟨bk, of + 6, none⟩ = some (.slice ab b.len cb)) wb.drew from ⟨r0, e4, e6⟩)
  have HSB := Lib.hid (show ∀ w', Below wb.heap.size wb w' → (fun w' : World => w'.cell? ⟨rb, 0, none⟩ = some (.string (bt x)) ∧ w'.cell? ⟨bk, of + 4, none⟩ = some (.slice an ns.length cn) ∧ w'.cell? ⟨bk, of + 6, none⟩ = some (.slice ab b.len cb)) w' from fun w' h => ⟨(h.cell (p := ⟨rb, 0, none⟩) hrb).trans r0, (h.cell (p := ⟨bk, of + 4, none⟩) hbk).trans e4, (h.cell (p := ⟨bk, of + 6, none⟩) hbk).trans e6⟩)
  have HN := Lib.hid hN
  have HB := Lib.hid hB
  have HR := Lib.hid hR
  have hd : decide (x ∈ ns) = false := by simpa using hm
  rw [hd] at H
  have HH := Lib.hid H
  clear hN hB hR H r0 e4 e6 hm
  conv => arg 2; whnf
  refine region_seg (fun w' : World => w'.cell? ⟨rb, 0, none⟩ = some (.string (bt x)) ∧ w'.cell? ⟨bk, of + 4, none⟩ = some (.slice an ns.length cn) ∧ w'.cell? ⟨bk, of + 6, none⟩ = some (.slice ab b.len cb)) [([(0, 10)], 10), ([(11, 9)], 20)] [(21, 3)] (by kernel_rfl) (by kernel_rfl) hQ HSP.out ?_
  refine segw_go ?_
  simp only [opsOf, List.take_succ_cons, List.take_zero, List.drop_succ_cons, List.drop_zero, List.cons_append, List.nil_append, List.append_nil]
  refine hwk_want (v := ?_) (by rfl) ?_ ?_
  rotate_left 1
  · intro w' hSw
    try dsimp only at hSw
    go_simp
    all_goals (with_reducible rfl)
  try simp only [Act.put, List.setIfInBounds_toArray, List.set_cons_zero, List.set_cons_succ]
  refine hwk_want (v := ?_) (by rfl) ?_ ?_
  rotate_left 1
  · intro w' hSw
    try dsimp only at hSw
    go_simp
    all_goals (with_reducible rfl)
  try simp only [Act.put, List.setIfInBounds_toArray, List.set_cons_zero, List.set_cons_succ]
  refine hwk_want (v := ?_) (by rfl) ?_ ?_
  rotate_left 1
  · intro w' hSw
    try dsimp only at hSw
    go_simp
    all_goals (with_reducible rfl)
  try simp only [Act.put, List.setIfInBounds_toArray, List.set_cons_zero, List.set_cons_succ]
  refine hwk_want (v := ?_) (by rfl) ?_ ?_
  rotate_left 1
  · intro w' hSw
    try dsimp only at hSw
    go_simp
    all_goals (with_reducible rfl)
  try simp only [Act.put, List.setIfInBounds_toArray, List.set_cons_zero, List.set_cons_succ]
  refine hwk_want (v := ?_) (by rfl) ?_ ?_
  rotate_left 1
  · intro w' hSw
    try dsimp only at hSw
    go_simp
    all_goals (with_reducible rfl)
  try simp only [Act.put, List.setIfInBounds_toArray, List.set_cons_zero, List.set_cons_succ]
  refine hwk_want (v := ?_) (by rfl) ?_ ?_
  rotate_left 1
  · intro w' hSw
    try dsimp only at hSw
    go_simp
    all_goals (with_reducible rfl)
  try simp only [Act.put, List.setIfInBounds_toArray, List.set_cons_zero, List.set_cons_succ]
  refine hwk_want (v := ?_) (by rfl) ?_ ?_
  rotate_left 1
  · intro w' hSw
    try dsimp only at hSw
    go_simp
    all_goals (with_reducible rfl)
  try simp only [Act.put, List.setIfInBounds_toArray, List.set_cons_zero, List.set_cons_succ]
  refine hwk_want (v := ?_) (by rfl) ?_ ?_
  rotate_left 1
  · intro w' hSw
    try dsimp only at hSw
    go_simp
    all_goals (with_reducible rfl)
  try simp only [Act.put, List.setIfInBounds_toArray, List.set_cons_zero, List.set_cons_succ]
  refine hwk_want (v := ?_) (by rfl) ?_ ?_
  rotate_left 1
  · intro w' hSw
    try dsimp only at hSw
    go_simp
    all_goals (with_reducible rfl)
  try simp only [Act.put, List.setIfInBounds_toArray, List.set_cons_zero, List.set_cons_succ]
  refine hwk_want (v := ?_) (by rfl) ?_ ?_
  rotate_left 1
  · intro w' hSw
    try dsimp only at hSw
    go_simp
    all_goals (with_reducible rfl)
  try simp only [Act.put, List.setIfInBounds_toArray, List.set_cons_zero, List.set_cons_succ]
  refine hwk_nil ?_
  refine segk_want rfl (by rfl) (fun K hK => ?_)
  replace hK := Lib.hid hK
  go_simp
  go_at_call 35
  refine (contains_any _ ns x _ M hns HN.out).mono ?_
  rintro e w5 ⟨rfl, rfl⟩
  rw [hd]
  refine hK.out _ _ HSP.out ?_
  clear hK K
  try simp only [Act.put, List.setIfInBounds_toArray, List.set_cons_zero, List.set_cons_succ]
  refine segw_go ?_
  simp only [opsOf, List.take_succ_cons, List.take_zero, List.drop_succ_cons, List.drop_zero, List.cons_append, List.nil_append, List.append_nil]
  refine hwk_want (v := ?_) (by rfl) ?_ ?_
  rotate_left 1
  · intro w' hSw
    try dsimp only at hSw
    go_simp
    all_goals (with_reducible rfl)
  try simp only [Act.put, List.setIfInBounds_toArray, List.set_cons_zero, List.set_cons_succ]
  refine hwk_want (v := ?_) (by rfl) ?_ ?_
  rotate_left 1
  · intro w' hSw
    try dsimp only at hSw
    go_simp
    all_goals (with_reducible rfl)
  try simp only [Act.put, List.setIfInBounds_toArray, List.set_cons_zero, List.set_cons_succ]
  refine hwk_want (v := ?_) (by rfl) ?_ ?_
  rotate_left 1
  · intro w' hSw
    try dsimp only at hSw
    go_simp
    all_goals (with_reducible rfl)
  try simp only [Act.put, List.setIfInBounds_toArray, List.set_cons_zero, List.set_cons_succ]
  refine hwk_want (v := ?_) (by rfl) ?_ ?_
  rotate_left 1
  · intro w' hSw
    try dsimp only at hSw
    go_simp
    all_goals (with_reducible rfl)
  try simp only [Act.put, List.setIfInBounds_toArray, List.set_cons_zero, List.set_cons_succ]
  refine hwk_want (v := ?_) (by rfl) ?_ ?_
  rotate_left 1
  · intro w' hSw
    try dsimp only at hSw
    go_simp
    all_goals (with_reducible rfl)
  try simp only [Act.put, List.setIfInBounds_toArray, List.set_cons_zero, List.set_cons_succ]
  refine hwk_want (v := ?_) (by rfl) ?_ ?_
  rotate_left 1
  · intro w' hSw
    try dsimp only at hSw
    go_simp
    all_goals (with_reducible rfl)
  try simp only [Act.put, List.setIfInBounds_toArray, List.set_cons_zero, List.set_cons_succ]
  refine hwk_want (v := ?_) (by rfl) ?_ ?_
  rotate_left 1
  · intro w' hSw
    try dsimp only at hSw
    go_simp
    all_goals (with_reducible rfl)
  try simp only [Act.put, List.setIfInBounds_toArray, List.set_cons_zero, List.set_cons_succ]
  refine hwk_want (v := ?_) (by rfl) ?_ ?_
  rotate_left 1
  · intro w' hSw
    try dsimp only at hSw
    go_simp
    all_goals (with_reducible rfl)
  try simp only [Act.put, List.setIfInBounds_toArray, List.set_cons_zero, List.set_cons_succ]
  refine hwk_want (v := ?_) (by rfl) ?_ ?_
  rotate_left 1
  · intro w' hSw
    try dsimp only at hSw
    go_simp
    all_goals (with_reducible rfl)
  try simp only [Act.put, List.setIfInBounds_toArray, List.set_cons_zero, List.set_cons_succ]
  refine hwk_nil ?_
  refine segk_want rfl (by rfl) (fun K hK => ?_)
  replace hK := Lib.hid hK
  go_simp
  go_at_call 36
  refine (rcontainsf_any rb ya yb room _ b x _ M hbl HB.out hMc HR.out).mono ?_
  rintro e w6 ⟨rfl, hb6⟩
  have HB6 := Lib.hid (show Below wb.heap.size wb w6 from ⟨hb6.os, hb6.tape, hb6.output, hb6.size, hb6.block⟩)
  clear hb6
  refine hK.out _ _ (HSB.out _ HB6.out) ?_
  clear hK K
  try simp only [Act.put, List.setIfInBounds_toArray, List.set_cons_zero, List.set_cons_succ]
  refine segw_end ?_
  simp only [opsOf, List.take_succ_cons, List.take_zero, List.drop_succ_cons, List.drop_zero, List.cons_append, List.nil_append, List.append_nil]
  refine hwk_want (v := ?_) (by rfl) ?_ ?_
  rotate_left 1
  · intro w' hSw
    try dsimp only at hSw
    go_simp
    all_goals (with_reducible rfl)
  try simp only [Act.put, List.setIfInBounds_toArray, List.set_cons_zero, List.set_cons_succ]
  refine hwk_want (v := ?_) (by rfl) ?_ ?_
  rotate_left 1
  · intro w' hSw
    try dsimp only at hSw
    go_simp
    all_goals (with_reducible rfl)
  try simp only [Act.put, List.setIfInBounds_toArray, List.set_cons_zero, List.set_cons_succ]
  refine hwk_want (v := ?_) (by rfl) ?_ ?_
  rotate_left 1
  · intro w' hSw
    try dsimp only at hSw
    go_simp
    all_goals (with_reducible rfl)
  try simp only [Act.put, List.setIfInBounds_toArray, List.set_cons_zero, List.set_cons_succ]
  refine hwk_nil ?_
  exact HH.out _ _ _ _ _ _ _ _ _ _ _ _ _ _ _ _ _ _ _ _ _ _ _ w6 HB6.out

end Go.Proofs.YtfcogjlojfcfkaaGreat
