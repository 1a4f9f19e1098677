/- A round of the replacer's loop over the alternatives. Bounds on how great they are. -/
import Derived.Test.YtfcogjlojfcfkaaGreatNC
namespace Go.Proofs.YtfcogjlojfcfkaaGreat
open Go.RowKit Ex0
attribute [local go_sem] bt_size bt_list bt_toList

/-- The region of a number in a code. -/
def codeAt (n : Nat) : Code → Option Code
  | .region id ops b => if id == n then some (.region id ops b) else none
  | .seq a b => match codeAt n a with
    | some c => some c
    | none => codeAt n b
  | .loop c => codeAt n c
  | .block _ c => codeAt n c
  | .scope c => codeAt n c
  | .cond _ a b => match codeAt n a with
    | some c => some c
    | none => codeAt n b
  | _ => none
noncomputable def cpR25 : Code := ((Tryz.f20.body.bind (codeAt 25)).getD .skip)
theorem wp_code {P : Program} {c c' : Code} {Q : Exit → Act → World → Prop} {a : Act} {w : World} (h : c = c') (hw : c'.wp P Q a w) : c.wp P Q a w := h ▸ hw

set_option maxHeartbeats 4000000 in
set_option maxRecDepth 100000 in
theorem alt_round_off (M rb ybk yof : Nat) (x : List UInt8) (y : By) (YB n : Nat) (op o3 : Bool) (ho3 : o3 = false) (hC : ∀ o, (o = true → op = true) → CopyC M rb ybk yof x y YB o n) (hOo : o3 = true → op = true)
    (W wr : World) (rs : Int) (B6 B7 bk of : Nat) (k : Int) (s : List UInt8) (nn op' : Int) (vn va vb : Value) (cc : Nat) (ns : List (List UInt8)) (a b c : Fx) (c4 c5 c6 : Value) (bb oo g cap3 hi3 : Nat)
    (g1 r : Fx) (k0 : Int) (s0 : List UInt8) (n0 : Int) (ns0 : List (List UInt8)) (k1 : Int) (s1 : List UInt8) (n1 op1 : Int) (ns1 : List (List UInt8)) (xa xb xc : Fx) (rf : Fx) (hrf : rf.len = g1.len)
    (hP : CpW M rb ybk yof x y YB W wr rs B6 B7 bk of k s nn op' vn va vb (.slice (some ⟨bb, oo, none⟩) c.len cc) ns a b c c4 c5 c6 (.slice (some ⟨g, 0, none⟩) c.len cap3))
    (hst : RowSt M hi3 40 4 wr g cap3 c.len rf (.cons (.alt k0 s0 n0 ns0) k1 s1 n1 op1 ns1 xa xb xc r)) (hlow3 : B7 < hi3)
    (a3 : Option Addr) (q3 : Nat) (xn1 : Option Addr) (xn2 : Nat) (xa1 : Option Addr) (xa2 : Nat) (xb1 : Option Addr) (xb2 : Nat) (xc1 : Option Addr) (xc2 : Nat)
    (hv3 : NsV (Old M) wr (.slice a3 ns0.length q3) ns0) (hx : ExV (Old M) wr (.slice xn1 ns1.length xn2) (.slice xa1 xa.len xa2) (.slice xb1 xb.len xb2) (.slice xc1 xc.len xc2) ns1 xa xb xc) (hbbM : bb < M)
    (hcells : wr.drew.cell? ⟨B7, 7, none⟩ = some (.slice (some ⟨g, 0, none⟩) c.len cap3) ∧ wr.drew.cell? ⟨bk, of + 7, none⟩ = some (.slice (some ⟨bb, oo, none⟩) c.len cc) ∧ wr.drew.cell? ⟨bk, of + 1, none⟩ = some (.string (bt s)) ∧ wr.drew.cell? ⟨rb, 0, none⟩ = some (.string (bt x)) ∧ wr.drew.cell? ⟨bb, oo + g1.len * 12, none⟩ = some (.int .i64 k0) ∧ wr.drew.cell? ⟨bb, oo + g1.len * 12 + 1, none⟩ = some (.string (bt s0)) ∧ wr.drew.cell? ⟨bb, oo + g1.len * 12 + 2, none⟩ = some (.int .i64 n0) ∧ wr.drew.cell? ⟨bb, oo + g1.len * 12 + 3, none⟩ = some (.slice a3 ns0.length q3) ∧ wr.drew.cell? ⟨bb, oo + g1.len * 12 + 4, none⟩ = some (.int .i64 k1) ∧ wr.drew.cell? ⟨bb, oo + g1.len * 12 + 5, none⟩ = some (.string (bt s1)) ∧ wr.drew.cell? ⟨bb, oo + g1.len * 12 + 6, none⟩ = some (.int .i64 n1) ∧ wr.drew.cell? ⟨bb, oo + g1.len * 12 + 7, none⟩ = some (.int .i64 op1) ∧ wr.drew.cell? ⟨bb, oo + g1.len * 12 + 8, none⟩ = some (.slice xn1 ns1.length xn2) ∧ wr.drew.cell? ⟨bb, oo + g1.len * 12 + 9, none⟩ = some (.slice xa1 xa.len xa2) ∧ wr.drew.cell? ⟨bb, oo + g1.len * 12 + 10, none⟩ = some (.slice xb1 xb.len xb2) ∧ wr.drew.cell? ⟨bb, oo + g1.len * 12 + 11, none⟩ = some (.slice xc1 xc.len xc2))
    (hcn : (parts xa xb xc).count < n ∧ (parts xa xb xc).count ≤ 131072 ∧ costE ns1 xa xb xc ≤ 1048576 ∧ ns0.length ≤ 1048576) (hnd : (need YB o3 (parts xa xb xc).count : Int) ≤ rs) (hlt : g1.len < c.len) (hcl : c.len ≤ 1048576) (hlc : c.len ≤ cc) (hcm : cc ≤ maxLen) 
    {Q : Exit → Act → World → Prop} (hQ : ∀ c a d v w, Q (.panic c) (a.put d v) w → Q (.panic c) a w) (u3 u4 u5 u6 u8 u9 u11 u12 u13 u14 u15 u16 u17 u18 u19 u20 u21 u22 u23 u24 u25 u26 u27 u28 u29 u30 u31 u32 u33 u34 u35 u36 u37 u38 u39 u40 u41 u42 u43 u44 u45 u46 u47 u48 u49 u50 u51 u52 u53 u54 u55 u56 u57 u58 u59 u60 u61 u62 u63 u64 u65 u66 u67 u68 u69 u70 u71 u72 u73 u74 u75 u76 u77 u78 u79 u80 u81 u82 u83 u84 u85 u86 u87 u88 u89 u90 u91 u92 u93 u94 u95 u96 u97 u98 u99 u100 u101 u102 u103 u104 u105 u106 u107 u108 u109 u110 u111 u112 u113 u114 u115 u116 u117 u118 u119 u120 u121 u122 u123 u124 u125 u126 u127 u128 u129 u130 u131 u132 u133 u134 u135 u136 u137 u138 u139 u140 u141 u142 u143 u144 u145 u146 u147 u148 u149 u150 u151 u152 u153 u154 u155 u156 u157 u158 u159 u160 u161 u162 u163 u164 u165 u166 u167 u168 u169 u170 u171 u172 u173 u174 u175 u176 u177 u178 u179 u180 u181 u182 u183 u184 u185 : Value)
    (H : ∀ (x159 x160 x161 x162 x163 x164 x165 x166 x167 x168 x169 x170 x171 x172 x173 x174 x175 x176 x177 x178 x179 x180 x181 x182 x183 : Value) (w13 wE : World) (rm13 : Int), wr.drew.grownBy w13 (some rb) → w13.grownBy wE (some g) → CpW M rb ybk yof x y YB W w13 rm13 B6 B7 bk of k s nn op' vn va vb (.slice (some ⟨bb, oo, none⟩) c.len cc) ns a b c c4 c5 c6 (.slice (some ⟨g, 0, none⟩) c.len cap3) → CpW M rb ybk yof x y YB W wE rm13 B6 B7 bk of k s nn op' vn va vb (.slice (some ⟨bb, oo, none⟩) c.len cc) ns a b c c4 c5 c6 (.slice (some ⟨g, 0, none⟩) c.len cap3) →
      RowSt M hi3 40 4 wE g cap3 c.len (rf.app ((repE x y (o3 && !decide (x ∈ ns0)) k1 s1 n1 op1 ns1 xa xb xc).fx (.alt k0 s0 n0 ns0) .nil)) r → rs - need YB o3 (parts xa xb xc).count ≤ rm13 → rm13 ≤ rs → Q .normal ⟨#[.pointer (some ⟨rb, 0, none⟩), .pointer (some ⟨bk, of, none⟩), .bool false, u3, u4, u5, u6, .pointer (some ⟨B7, 0, none⟩), u8, u9, .int .i64 g1.len, u11, u12, u13, u14, u15, u16, u17, u18, u19, u20, u21, u22, u23, u24, u25, u26, u27, u28, u29, u30, u31, u32, u33, u34, u35, u36, u37, u38, u39, u40, u41, u42, u43, u44, u45, u46, u47, u48, u49, u50, u51, u52, u53, u54, u55, u56, u57, u58, u59, u60, u61, u62, u63, u64, u65, u66, u67, u68, u69, u70, u71, u72, u73, u74, u75, u76, u77, u78, u79, u80, u81, u82, u83, u84, u85, u86, u87, u88, u89, u90, u91, u92, u93, u94, u95, u96, u97, u98, u99, u100, u101, u102, u103, u104, u105, u106, u107, u108, u109, u110, u111, u112, u113, u114, u115, u116, u117, u118, u119, u120, u121, u122, u123, u124, u125, u126, u127, u128, u129, u130, u131, u132, u133, u134, u135, u136, u137, u138, u139, u140, u141, u142, u143, u144, u145, u146, u147, u148, u149, u150, u151, u152, u153, u154, u155, u156, u157, u158, x159, x160, x161, x162, x163, x164, x165, x166, x167, x168, x169, x170, x171, x172, x173, x174, x175, x176, x177, x178, x179, x180, x181, x182, x183, u184, u185], []⟩ wE) :
    cpR25.wp Tryz.prog Q ⟨#[.pointer (some ⟨rb, 0, none⟩), .pointer (some ⟨bk, of, none⟩), .bool false, u3, u4, u5, u6, .pointer (some ⟨B7, 0, none⟩), u8, u9, .int .i64 g1.len, u11, u12, u13, u14, u15, u16, u17, u18, u19, u20, u21, u22, u23, u24, u25, u26, u27, u28, u29, u30, u31, u32, u33, u34, u35, u36, u37, u38, u39, u40, u41, u42, u43, u44, u45, u46, u47, u48, u49, u50, u51, u52, u53, u54, u55, u56, u57, u58, u59, u60, u61, u62, u63, u64, u65, u66, u67, u68, u69, u70, u71, u72, u73, u74, u75, u76, u77, u78, u79, u80, u81, u82, u83, u84, u85, u86, u87, u88, u89, u90, u91, u92, u93, u94, u95, u96, u97, u98, u99, u100, u101, u102, u103, u104, u105, u106, u107, u108, u109, u110, u111, u112, u113, u114, u115, u116, u117, u118, u119, u120, u121, u122, u123, u124, u125, u126, u127, u128, u129, u130, u131, u132, u133, u134, u135, u136, u137, u138, u139, u140, u141, u142, u143, u144, u145, u146, u147, u148, u149, u150, u151, u152, u153, u154, u155, u156, u157, u158, u159, u160, u161, u162, u163, u164, u165, u166, u167, u168, u169, u170, u171, u172, u173, u174, u175, u176, u177, u178, u179, u180, u181, u182, u183, u184, u185], []⟩ wr := by
  obtain ⟨hc0, hc1, hc2, hc3, hj0, hj1, hj2, hj3, hj4, hj5, hj6, hj7, hj8, hj9, hj10, hj11⟩ := hcells
  have hMr := hP.rp.hM
  have hBr := hP.lt
  have hl6 := hP.l6
  have hl7 := hP.l7
  have hlr := hP.lr
  have hlb := hP.lb
  have hgl := hst.low
  have hgw := hst.lt
  have td : wr.grownBy wr.drew (some rb) := mz_drew ⟨rfl, rfl, rfl, Nat.le_refl _, fun _ _ _ => rfl⟩
  have hkd : Keep (Old M) (Old M) wr wr.drew := fun g hg => ⟨hg, fun _ => rfl⟩
  have hPd := hP.copy (w' := wr.drew) (room' := rs) td hP.rp.rp (Int.le_refl _)
  have hSd := hst.grow td (fun q e => by cases e; exact ⟨hMr, by omega⟩)
  have hgB : B7 ≠ g := by omega
  have hgb : bk ≠ g := by omega
  have hgr0 : rb ≠ g := by omega
  have hgbb : bb ≠ g := by omega
  have hbr : bb ≠ rb := by omega
  have hbkr := hPd.ex.ne
  have hblt : bb < wr.drew.heap.size := show bb < wr.heap.size by omega
  have hklt : bk < wr.drew.heap.size := hPd.ex.lt
  have hSK : ∀ w' : World, wr.drew.grownBy w' (some rb) → w'.cell? ⟨B7, 7, none⟩ = some (.slice (some ⟨g, 0, none⟩) c.len cap3) → w'.cell? ⟨rb, 0, none⟩ = some (.string (bt x)) → (w'.cell? ⟨B7, 7, none⟩ = some (.slice (some ⟨g, 0, none⟩) c.len cap3) ∧ w'.cell? ⟨bk, of + 7, none⟩ = some (.slice (some ⟨bb, oo, none⟩) c.len cc) ∧ w'.cell? ⟨bk, of + 1, none⟩ = some (.string (bt s)) ∧ w'.cell? ⟨rb, 0, none⟩ = some (.string (bt x)) ∧ w'.cell? ⟨bb, oo + g1.len * 12, none⟩ = some (.int .i64 k0) ∧ w'.cell? ⟨bb, oo + g1.len * 12 + 1, none⟩ = some (.string (bt s0)) ∧ w'.cell? ⟨bb, oo + g1.len * 12 + 2, none⟩ = some (.int .i64 n0) ∧ w'.cell? ⟨bb, oo + g1.len * 12 + 3, none⟩ = some (.slice a3 ns0.length q3) ∧ w'.cell? ⟨bb, oo + g1.len * 12 + 4, none⟩ = some (.int .i64 k1) ∧ w'.cell? ⟨bb, oo + g1.len * 12 + 5, none⟩ = some (.string (bt s1)) ∧ w'.cell? ⟨bb, oo + g1.len * 12 + 6, none⟩ = some (.int .i64 n1) ∧ w'.cell? ⟨bb, oo + g1.len * 12 + 7, none⟩ = some (.int .i64 op1) ∧ w'.cell? ⟨bb, oo + g1.len * 12 + 8, none⟩ = some (.slice xn1 ns1.length xn2) ∧ w'.cell? ⟨bb, oo + g1.len * 12 + 9, none⟩ = some (.slice xa1 xa.len xa2) ∧ w'.cell? ⟨bb, oo + g1.len * 12 + 10, none⟩ = some (.slice xb1 xb.len xb2) ∧ w'.cell? ⟨bb, oo + g1.len * 12 + 11, none⟩ = some (.slice xc1 xc.len xc2)) := fun w' t h1 h2 => by
    have eb : ∀ o, w'.cell? ⟨bb, o, none⟩ = wr.drew.cell? ⟨bb, o, none⟩ := fun o => World.cell?_of_block (w := wr.drew) (w' := w') (a := ⟨bb, o, none⟩) (t.block bb hblt (fun e => hbr (Option.some.inj e)))
    have ek : ∀ o, w'.cell? ⟨bk, o, none⟩ = wr.drew.cell? ⟨bk, o, none⟩ := fun o => World.cell?_of_block (w := wr.drew) (w' := w') (a := ⟨bk, o, none⟩) (t.block bk hklt (fun e => hbkr (Option.some.inj e)))
    exact ⟨h1, (ek _).trans hc1, (ek _).trans hc2, h2, (eb _).trans hj0, (eb _).trans hj1, (eb _).trans hj2, (eb _).trans hj3, (eb _).trans hj4, (eb _).trans hj5, (eb _).trans hj6, (eb _).trans hj7, (eb _).trans hj8, (eb _).trans hj9, (eb _).trans hj10, (eb _).trans hj11⟩
  have hSQ : ∀ (w' : World) {o : Nat} {v0 v1 v2 v3 v4 v5 v6 v7 v8 v9 v10 v11 : Value}, ((fun w' : World => w'.cell? ⟨B7, 7, none⟩ = some (.slice (some ⟨g, 0, none⟩) c.len cap3) ∧ w'.cell? ⟨bk, of + 7, none⟩ = some (.slice (some ⟨bb, oo, none⟩) c.len cc) ∧ w'.cell? ⟨bk, of + 1, none⟩ = some (.string (bt s)) ∧ w'.cell? ⟨rb, 0, none⟩ = some (.string (bt x)) ∧ w'.cell? ⟨bb, oo + g1.len * 12, none⟩ = some (.int .i64 k0) ∧ w'.cell? ⟨bb, oo + g1.len * 12 + 1, none⟩ = some (.string (bt s0)) ∧ w'.cell? ⟨bb, oo + g1.len * 12 + 2, none⟩ = some (.int .i64 n0) ∧ w'.cell? ⟨bb, oo + g1.len * 12 + 3, none⟩ = some (.slice a3 ns0.length q3) ∧ w'.cell? ⟨bb, oo + g1.len * 12 + 4, none⟩ = some (.int .i64 k1) ∧ w'.cell? ⟨bb, oo + g1.len * 12 + 5, none⟩ = some (.string (bt s1)) ∧ w'.cell? ⟨bb, oo + g1.len * 12 + 6, none⟩ = some (.int .i64 n1) ∧ w'.cell? ⟨bb, oo + g1.len * 12 + 7, none⟩ = some (.int .i64 op1) ∧ w'.cell? ⟨bb, oo + g1.len * 12 + 8, none⟩ = some (.slice xn1 ns1.length xn2) ∧ w'.cell? ⟨bb, oo + g1.len * 12 + 9, none⟩ = some (.slice xa1 xa.len xa2) ∧ w'.cell? ⟨bb, oo + g1.len * 12 + 10, none⟩ = some (.slice xb1 xb.len xb2) ∧ w'.cell? ⟨bb, oo + g1.len * 12 + 11, none⟩ = some (.slice xc1 xc.len xc2))) w' → ((fun w' : World => w'.cell? ⟨B7, 7, none⟩ = some (.slice (some ⟨g, 0, none⟩) c.len cap3) ∧ w'.cell? ⟨bk, of + 7, none⟩ = some (.slice (some ⟨bb, oo, none⟩) c.len cc) ∧ w'.cell? ⟨bk, of + 1, none⟩ = some (.string (bt s)) ∧ w'.cell? ⟨rb, 0, none⟩ = some (.string (bt x)) ∧ w'.cell? ⟨bb, oo + g1.len * 12, none⟩ = some (.int .i64 k0) ∧ w'.cell? ⟨bb, oo + g1.len * 12 + 1, none⟩ = some (.string (bt s0)) ∧ w'.cell? ⟨bb, oo + g1.len * 12 + 2, none⟩ = some (.int .i64 n0) ∧ w'.cell? ⟨bb, oo + g1.len * 12 + 3, none⟩ = some (.slice a3 ns0.length q3) ∧ w'.cell? ⟨bb, oo + g1.len * 12 + 4, none⟩ = some (.int .i64 k1) ∧ w'.cell? ⟨bb, oo + g1.len * 12 + 5, none⟩ = some (.string (bt s1)) ∧ w'.cell? ⟨bb, oo + g1.len * 12 + 6, none⟩ = some (.int .i64 n1) ∧ w'.cell? ⟨bb, oo + g1.len * 12 + 7, none⟩ = some (.int .i64 op1) ∧ w'.cell? ⟨bb, oo + g1.len * 12 + 8, none⟩ = some (.slice xn1 ns1.length xn2) ∧ w'.cell? ⟨bb, oo + g1.len * 12 + 9, none⟩ = some (.slice xa1 xa.len xa2) ∧ w'.cell? ⟨bb, oo + g1.len * 12 + 10, none⟩ = some (.slice xb1 xb.len xb2) ∧ w'.cell? ⟨bb, oo + g1.len * 12 + 11, none⟩ = some (.slice xc1 xc.len xc2))) ((((((((((((w'.setCell ⟨g, o, none⟩ v0).setCell ⟨g, o + 1, none⟩ v1).setCell ⟨g, o + 2, none⟩ v2).setCell ⟨g, o + 3, none⟩ v3).setCell ⟨g, o + 4, none⟩ v4).setCell ⟨g, o + 5, none⟩ v5).setCell ⟨g, o + 6, none⟩ v6).setCell ⟨g, o + 7, none⟩ v7).setCell ⟨g, o + 8, none⟩ v8).setCell ⟨g, o + 9, none⟩ v9).setCell ⟨g, o + 10, none⟩ v10).setCell ⟨g, o + 11, none⟩ v11) := fun w' o v0 v1 v2 v3 v4 v5 v6 v7 v8 v9 v10 v11 h => by
    dsimp only at h ⊢
    obtain ⟨i1, i2, i3, i4, j0, j1, j2, j3, j4, j5, j6, j7, j8, j9, j10, j11⟩ := h
    exact ⟨(sets12_cell hgB).trans i1, (sets12_cell hgb).trans i2, (sets12_cell hgb).trans i3, (sets12_cell hgr0).trans i4, (sets12_cell hgbb).trans j0, (sets12_cell hgbb).trans j1, (sets12_cell hgbb).trans j2, (sets12_cell hgbb).trans j3, (sets12_cell hgbb).trans j4, (sets12_cell hgbb).trans j5, (sets12_cell hgbb).trans j6, (sets12_cell hgbb).trans j7, (sets12_cell hgbb).trans j8, (sets12_cell hgbb).trans j9, (sets12_cell hgbb).trans j10, (sets12_cell hgbb).trans j11⟩
  have HSP := Lib.hid (show ((fun w' : World => w'.cell? ⟨B7, 7, none⟩ = some (.slice (some ⟨g, 0, none⟩) c.len cap3) ∧ w'.cell? ⟨bk, of + 7, none⟩ = some (.slice (some ⟨bb, oo, none⟩) c.len cc) ∧ w'.cell? ⟨bk, of + 1, none⟩ = some (.string (bt s)) ∧ w'.cell? ⟨rb, 0, none⟩ = some (.string (bt x)) ∧ w'.cell? ⟨bb, oo + g1.len * 12, none⟩ = some (.int .i64 k0) ∧ w'.cell? ⟨bb, oo + g1.len * 12 + 1, none⟩ = some (.string (bt s0)) ∧ w'.cell? ⟨bb, oo + g1.len * 12 + 2, none⟩ = some (.int .i64 n0) ∧ w'.cell? ⟨bb, oo + g1.len * 12 + 3, none⟩ = some (.slice a3 ns0.length q3) ∧ w'.cell? ⟨bb, oo + g1.len * 12 + 4, none⟩ = some (.int .i64 k1) ∧ w'.cell? ⟨bb, oo + g1.len * 12 + 5, none⟩ = some (.string (bt s1)) ∧ w'.cell? ⟨bb, oo + g1.len * 12 + 6, none⟩ = some (.int .i64 n1) ∧ w'.cell? ⟨bb, oo + g1.len * 12 + 7, none⟩ = some (.int .i64 op1) ∧ w'.cell? ⟨bb, oo + g1.len * 12 + 8, none⟩ = some (.slice xn1 ns1.length xn2) ∧ w'.cell? ⟨bb, oo + g1.len * 12 + 9, none⟩ = some (.slice xa1 xa.len xa2) ∧ w'.cell? ⟨bb, oo + g1.len * 12 + 10, none⟩ = some (.slice xb1 xb.len xb2) ∧ w'.cell? ⟨bb, oo + g1.len * 12 + 11, none⟩ = some (.slice xc1 xc.len xc2))) wr.drew from ⟨hc0, hc1, hc2, hc3, hj0, hj1, hj2, hj3, hj4, hj5, hj6, hj7, hj8, hj9, hj10, hj11⟩)
  have HSK := Lib.hid hSK
  have HSQ := Lib.hid hSQ
  have HPd := Lib.hid hPd
  have HSd := Lib.hid hSd
  have HXe := Lib.hid (And.intro (hv3.keep hkd) (hx.keep hkd))
  have HCn := Lib.hid (And.intro hcn hnd)
  have HC := Lib.hid hC
  have HOo := Lib.hid hOo
  obtain ⟨z, hz⟩ : ∃ z, repE x y (o3 && !decide (x ∈ ns0)) k1 s1 n1 op1 ns1 xa xb xc = z := ⟨_, rfl⟩
  rw [hz] at H
  have HZ := Lib.hid hz
  have HH := Lib.hid H
  clear hz
  have ho12 : g1.len * 12 + 12 ≤ c.len * (4 + 8) := by omega
  unfold maxLen at hcm
  clear hc0 hc1 hc2 hc3 hj0 hj1 hj2 hj3 hj4 hj5 hj6 hj7 hj8 hj9 hj10 hj11 hSK hSQ hPd hSd hkd td hv3 hx hcn hnd hC hOo H hP hst hbkr hblt hklt hgB hgb hgr0 hgbb hbr hlr hlb hl6 hl7 hgw hgl hBr hMr
  subst ho3
  conv => arg 2; whnf
  refine region_pair (fun w' : World => w'.cell? ⟨B7, 7, none⟩ = some (.slice (some ⟨g, 0, none⟩) c.len cap3) ∧ w'.cell? ⟨bk, of + 7, none⟩ = some (.slice (some ⟨bb, oo, none⟩) c.len cc) ∧ w'.cell? ⟨bk, of + 1, none⟩ = some (.string (bt s)) ∧ w'.cell? ⟨rb, 0, none⟩ = some (.string (bt x)) ∧ w'.cell? ⟨bb, oo + g1.len * 12, none⟩ = some (.int .i64 k0) ∧ w'.cell? ⟨bb, oo + g1.len * 12 + 1, none⟩ = some (.string (bt s0)) ∧ w'.cell? ⟨bb, oo + g1.len * 12 + 2, none⟩ = some (.int .i64 n0) ∧ w'.cell? ⟨bb, oo + g1.len * 12 + 3, none⟩ = some (.slice a3 ns0.length q3) ∧ w'.cell? ⟨bb, oo + g1.len * 12 + 4, none⟩ = some (.int .i64 k1) ∧ w'.cell? ⟨bb, oo + g1.len * 12 + 5, none⟩ = some (.string (bt s1)) ∧ w'.cell? ⟨bb, oo + g1.len * 12 + 6, none⟩ = some (.int .i64 n1) ∧ w'.cell? ⟨bb, oo + g1.len * 12 + 7, none⟩ = some (.int .i64 op1) ∧ w'.cell? ⟨bb, oo + g1.len * 12 + 8, none⟩ = some (.slice xn1 ns1.length xn2) ∧ w'.cell? ⟨bb, oo + g1.len * 12 + 9, none⟩ = some (.slice xa1 xa.len xa2) ∧ w'.cell? ⟨bb, oo + g1.len * 12 + 10, none⟩ = some (.slice xb1 xb.len xb2) ∧ w'.cell? ⟨bb, oo + g1.len * 12 + 11, none⟩ = some (.slice xc1 xc.len xc2)) 23 25 (by kernel_rfl) (by kernel_rfl) hQ HSP.out ?_
  simp only [List.take_succ_cons, List.take_zero, List.drop_succ_cons, List.drop_zero, List.cons_append, List.nil_append, Nat.reduceSub, Nat.reduceAdd]
  refine hwk_want (v := ?_) (by rfl) ?_ ?_
  rotate_left 1
  · intro w' hSw
    try dsimp only at hSw
    go_simp
    all_goals (with_reducible rfl)
  try simp only [Act.put, List.setIfInBounds_toArray, List.set_cons_zero, List.set_cons_succ]
  refine hwk_want (v := ?_) (by rfl) ?_ ?_
  rotate_left 1
  · intro w' hSw
    try dsimp only at hSw
    go_simp
    all_goals (with_reducible rfl)
  try simp only [Act.put, List.setIfInBounds_toArray, List.set_cons_zero, List.set_cons_succ]
  refine hwk_want (v := ?_) (by rfl) ?_ ?_
  rotate_left 1
  · intro w' hSw
    try dsimp only at hSw
    go_simp
    all_goals (with_reducible rfl)
  try simp only [Act.put, List.setIfInBounds_toArray, List.set_cons_zero, List.set_cons_succ]
  refine hwk_want (v := ?_) (by rfl) ?_ ?_
  rotate_left 1
  · intro w' hSw
    try dsimp only at hSw
    go_simp
    all_goals (with_reducible rfl)
  try simp only [Act.put, List.setIfInBounds_toArray, List.set_cons_zero, List.set_cons_succ]
  refine hwk_want (v := ?_) (by rfl) ?_ ?_
  rotate_left 1
  · intro w' hSw
    try dsimp only at hSw
    go_simp
    all_goals (with_reducible rfl)
  try simp only [Act.put, List.setIfInBounds_toArray, List.set_cons_zero, List.set_cons_succ]
  refine hwk_want (v := ?_) (by rfl) ?_ ?_
  rotate_left 1
  · intro w' hSw
    try dsimp only at hSw
    go_simp
    all_goals (with_reducible rfl)
  try simp only [Act.put, List.setIfInBounds_toArray, List.set_cons_zero, List.set_cons_succ]
  refine hwk_want (v := ?_) (by rfl) ?_ ?_
  rotate_left 1
  · intro w' hSw
    try dsimp only at hSw
    go_simp
    all_goals (with_reducible rfl)
  try simp only [Act.put, List.setIfInBounds_toArray, List.set_cons_zero, List.set_cons_succ]
  refine hwk_want (v := ?_) (by rfl) ?_ ?_
  rotate_left 1
  · intro w' hSw
    try dsimp only at hSw
    go_simp
    all_goals (with_reducible rfl)
  try simp only [Act.put, List.setIfInBounds_toArray, List.set_cons_zero, List.set_cons_succ]
  refine hwk_want (v := ?_) (by rfl) ?_ ?_
  rotate_left 1
  · intro w' hSw
    try dsimp only at hSw
    go_simp
    all_goals (with_reducible rfl)
  try simp only [Act.put, List.setIfInBounds_toArray, List.set_cons_zero, List.set_cons_succ]
  refine hwk_want (v := ?_) (by rfl) ?_ ?_
  rotate_left 1
  · intro w' hSw
    try dsimp only at hSw
    go_simp
    all_goals (with_reducible rfl)
  try simp only [Act.put, List.setIfInBounds_toArray, List.set_cons_zero, List.set_cons_succ]
  refine hwk_want (v := ?_) (by rfl) ?_ ?_
  rotate_left 1
  · intro w' hSw
    try dsimp only at hSw
    go_simp
    all_goals (with_reducible rfl)
  try simp only [Act.put, List.setIfInBounds_toArray, List.set_cons_zero, List.set_cons_succ]
  refine hwk_want (v := ?_) (by rfl) ?_ ?_
  rotate_left 1
  · intro w' hSw
    try dsimp only at hSw
    go_simp
    all_goals (with_reducible rfl)
  try simp only [Act.put, List.setIfInBounds_toArray, List.set_cons_zero, List.set_cons_succ]
  refine hwk_want (v := ?_) (by rfl) ?_ ?_
  rotate_left 1
  · intro w' hSw
    try dsimp only at hSw
    go_simp
    all_goals (with_reducible rfl)
  try simp only [Act.put, List.setIfInBounds_toArray, List.set_cons_zero, List.set_cons_succ]
  refine hwk_skip (by kernel_rfl) ?_
  try simp only [Act.put, List.setIfInBounds_toArray, List.set_cons_zero, List.set_cons_succ]
  refine hwk_skip (by kernel_rfl) ?_
  try simp only [Act.put, List.setIfInBounds_toArray, List.set_cons_zero, List.set_cons_succ]
  refine hwk_skip (by kernel_rfl) ?_
  try simp only [Act.put, List.setIfInBounds_toArray, List.set_cons_zero, List.set_cons_succ]
  refine hwk_skip (by kernel_rfl) ?_
  try simp only [Act.put, List.setIfInBounds_toArray, List.set_cons_zero, List.set_cons_succ]
  refine hwk_skip (by kernel_rfl) ?_
  try simp only [Act.put, List.setIfInBounds_toArray, List.set_cons_zero, List.set_cons_succ]
  refine hwk_skip (by kernel_rfl) ?_
  try simp only [Act.put, List.setIfInBounds_toArray, List.set_cons_zero, List.set_cons_succ]
  refine hwk_skip (by kernel_rfl) ?_
  try simp only [Act.put, List.setIfInBounds_toArray, List.set_cons_zero, List.set_cons_succ]
  refine hwk_skip (by kernel_rfl) ?_
  try simp only [Act.put, List.setIfInBounds_toArray, List.set_cons_zero, List.set_cons_succ]
  refine hwk_skip (by kernel_rfl) ?_
  try simp only [Act.put, List.setIfInBounds_toArray, List.set_cons_zero, List.set_cons_succ]
  refine hwk_want (v := ?_) (by rfl) ?_ ?_
  rotate_left 1
  · intro w' hSw
    try dsimp only at hSw
    go_simp
    all_goals (with_reducible rfl)
  try simp only [Act.put, List.setIfInBounds_toArray, List.set_cons_zero, List.set_cons_succ]
  refine hwk_nil ?_
  refine two_want rfl (by rfl) (fun K hK => ?_)
  replace hK := Lib.hid hK
  go_simp
  go_at_call 42
  have hcon := (alt_any M rb ybk yof x y YB n false (fun o h => HC.out o (fun q => HOo.out (h q))) k0 s0 n0 _ ns0 k1 s1 n1 op1 _ _ _ _ ns1 xa xb xc wr.drew rs HCn.out.1.1 HXe.out.1 HXe.out.2 HPd.out.rp HCn.out.1.2.2.2 HCn.out.1.2.2.1 HCn.out.1.2.1 HCn.out.2)
  rw [HZ.out] at hcon
  refine hcon.mono ?_
  clear hcon
  rintro e w13 hpost
  obtain ⟨a13, c13, an13, cn13, aa13, ca13, ab13, cb13, ac13, cc13, rm13, rfl, hD13, hle13, hge13, hg13⟩ := alt_done HPd.out HSd.out hlow3 hpost
  clear hpost
  have HS13 := Lib.hid (HSK.out w13 hg13 (cell_of hD13.cp.h7 7 _ rfl) (cell_of hD13.cp.rp.rp 0 _ rfl))
  obtain ⟨⟨z0, z1, z2, z3, z4, z5, z6, z7, z8, z9, z10, z11, y0, y1, y2, y3, y4, y5, y6, y7, y8, y9, y10, y11⟩, fz⟩ := hD13.st.cells12 ho12
  have HD13 := Lib.hid hD13
  have HG13 := Lib.hid (And.intro hle13 (And.intro hge13 hg13))
  clear hD13 hle13 hge13 hg13
  refine hK.out _ _ HS13.out ?_
  clear hK K
  try simp only [Act.put, List.setIfInBounds_toArray, List.set_cons_zero, List.set_cons_succ]
  refine hwk_want (v := ?_) (by rfl) ?_ ?_
  rotate_left 1
  · intro w' hSw
    try dsimp only at hSw
    go_simp
    all_goals (with_reducible rfl)
  try simp only [Act.put, List.setIfInBounds_toArray, List.set_cons_zero, List.set_cons_succ]
  refine hwk_nil ?_
  refine last_want rfl (by rfl) (fun K hK => ?_)
  replace hK := Lib.hid hK
  go_simp
  refine hK.out _ _ (HSQ.out w13 HS13.out) ?_
  clear hK K
  have hput := HD13.out.st.put4 (o := g1.len * 12) (by rw [hrf]) HD13.out.nx HD13.out.ex
  generalize hwE : World.setCell (World.setCell (World.setCell _ _ _) _ _) _ _ = wE
  have tE : w13.grownBy wE (some g) := by rw [← hwE]; exact sets12 (o := g1.len * 12)
  rw [hwE] at hput
  have hPE := HD13.out.cp.still tE (fun q e => by cases e; have := HD13.out.st.low; omega)
  exact HH.out _ _ _ _ _ _ _ _ _ _ _ _ _ _ _ _ _ _ _ _ _ _ _ _ _ w13 wE rm13 HG13.out.2.2 tE HD13.out.cp hPE hput HG13.out.1 HG13.out.2.1

set_option maxHeartbeats 4000000 in
set_option maxRecDepth 100000 in
theorem alt_round_on (M rb ybk yof : Nat) (x : List UInt8) (y : By) (YB n : Nat) (op o3 : Bool) (hC : ∀ o, (o = true → op = true) → CopyC M rb ybk yof x y YB o n) (hOo : o3 = true → op = true)
    (W wr : World) (rs : Int) (B6 B7 bk of : Nat) (k : Int) (s : List UInt8) (nn op' : Int) (vn va vb : Value) (cc : Nat) (ns : List (List UInt8)) (a b c : Fx) (c4 c5 c6 : Value) (bb oo g cap3 hi3 : Nat)
    (g1 r : Fx) (k0 : Int) (s0 : List UInt8) (n0 : Int) (ns0 : List (List UInt8)) (k1 : Int) (s1 : List UInt8) (n1 op1 : Int) (ns1 : List (List UInt8)) (xa xb xc : Fx) (rf : Fx) (hrf : rf.len = g1.len)
    (hP : CpW M rb ybk yof x y YB W wr rs B6 B7 bk of k s nn op' vn va vb (.slice (some ⟨bb, oo, none⟩) c.len cc) ns a b c c4 c5 c6 (.slice (some ⟨g, 0, none⟩) c.len cap3))
    (hst : RowSt M hi3 40 4 wr g cap3 c.len rf (.cons (.alt k0 s0 n0 ns0) k1 s1 n1 op1 ns1 xa xb xc r)) (hlow3 : B7 < hi3)
    (a3 : Option Addr) (q3 : Nat) (xn1 : Option Addr) (xn2 : Nat) (xa1 : Option Addr) (xa2 : Nat) (xb1 : Option Addr) (xb2 : Nat) (xc1 : Option Addr) (xc2 : Nat)
    (hv3 : NsV (Old M) wr (.slice a3 ns0.length q3) ns0) (hx : ExV (Old M) wr (.slice xn1 ns1.length xn2) (.slice xa1 xa.len xa2) (.slice xb1 xb.len xb2) (.slice xc1 xc.len xc2) ns1 xa xb xc) (hbbM : bb < M)
    (hcells : wr.drew.cell? ⟨B7, 7, none⟩ = some (.slice (some ⟨g, 0, none⟩) c.len cap3) ∧ wr.drew.cell? ⟨bk, of + 7, none⟩ = some (.slice (some ⟨bb, oo, none⟩) c.len cc) ∧ wr.drew.cell? ⟨bk, of + 1, none⟩ = some (.string (bt s)) ∧ wr.drew.cell? ⟨rb, 0, none⟩ = some (.string (bt x)) ∧ wr.drew.cell? ⟨bb, oo + g1.len * 12, none⟩ = some (.int .i64 k0) ∧ wr.drew.cell? ⟨bb, oo + g1.len * 12 + 1, none⟩ = some (.string (bt s0)) ∧ wr.drew.cell? ⟨bb, oo + g1.len * 12 + 2, none⟩ = some (.int .i64 n0) ∧ wr.drew.cell? ⟨bb, oo + g1.len * 12 + 3, none⟩ = some (.slice a3 ns0.length q3) ∧ wr.drew.cell? ⟨bb, oo + g1.len * 12 + 4, none⟩ = some (.int .i64 k1) ∧ wr.drew.cell? ⟨bb, oo + g1.len * 12 + 5, none⟩ = some (.string (bt s1)) ∧ wr.drew.cell? ⟨bb, oo + g1.len * 12 + 6, none⟩ = some (.int .i64 n1) ∧ wr.drew.cell? ⟨bb, oo + g1.len * 12 + 7, none⟩ = some (.int .i64 op1) ∧ wr.drew.cell? ⟨bb, oo + g1.len * 12 + 8, none⟩ = some (.slice xn1 ns1.length xn2) ∧ wr.drew.cell? ⟨bb, oo + g1.len * 12 + 9, none⟩ = some (.slice xa1 xa.len xa2) ∧ wr.drew.cell? ⟨bb, oo + g1.len * 12 + 10, none⟩ = some (.slice xb1 xb.len xb2) ∧ wr.drew.cell? ⟨bb, oo + g1.len * 12 + 11, none⟩ = some (.slice xc1 xc.len xc2))
    (hcn : (parts xa xb xc).count < n ∧ (parts xa xb xc).count ≤ 131072 ∧ costE ns1 xa xb xc ≤ 1048576 ∧ ns0.length ≤ 1048576) (hnd : (need YB o3 (parts xa xb xc).count : Int) ≤ rs) (hlt : g1.len < c.len) (hcl : c.len ≤ 1048576) (hlc : c.len ≤ cc) (hcm : cc ≤ maxLen) (ho3 : (!decide (s = x)) = o3)
    {Q : Exit → Act → World → Prop} (hQ : ∀ c a d v w, Q (.panic c) (a.put d v) w → Q (.panic c) a w) (u3 u4 u5 u6 u8 u9 u11 u12 u13 u14 u15 u16 u17 u18 u19 u20 u21 u22 u23 u24 u25 u26 u27 u28 u29 u30 u31 u32 u33 u34 u35 u36 u37 u38 u39 u40 u41 u42 u43 u44 u45 u46 u47 u48 u49 u50 u51 u52 u53 u54 u55 u56 u57 u58 u59 u60 u61 u62 u63 u64 u65 u66 u67 u68 u69 u70 u71 u72 u73 u74 u75 u76 u77 u78 u79 u80 u81 u82 u83 u84 u85 u86 u87 u88 u89 u90 u91 u92 u93 u94 u95 u96 u97 u98 u99 u100 u101 u102 u103 u104 u105 u106 u107 u108 u109 u110 u111 u112 u113 u114 u115 u116 u117 u118 u119 u120 u121 u122 u123 u124 u125 u126 u127 u128 u129 u130 u131 u132 u133 u134 u135 u136 u137 u138 u139 u140 u141 u142 u143 u144 u145 u146 u147 u148 u149 u150 u151 u152 u153 u154 u155 u156 u157 u158 u159 u160 u161 u162 u163 u164 u165 u166 u167 u168 u169 u170 u171 u172 u173 u174 u175 u176 u177 u178 u179 u180 u181 u182 u183 u184 u185 : Value)
    (H : ∀ (x159 x160 x161 x162 x163 x164 x165 x166 x167 x168 x169 x170 x171 x172 x173 x174 x175 x176 x177 x178 x179 x180 x181 x182 x183 : Value) (w13 wE : World) (rm13 : Int), wr.drew.grownBy w13 (some rb) → w13.grownBy wE (some g) → CpW M rb ybk yof x y YB W w13 rm13 B6 B7 bk of k s nn op' vn va vb (.slice (some ⟨bb, oo, none⟩) c.len cc) ns a b c c4 c5 c6 (.slice (some ⟨g, 0, none⟩) c.len cap3) → CpW M rb ybk yof x y YB W wE rm13 B6 B7 bk of k s nn op' vn va vb (.slice (some ⟨bb, oo, none⟩) c.len cc) ns a b c c4 c5 c6 (.slice (some ⟨g, 0, none⟩) c.len cap3) →
      RowSt M hi3 40 4 wE g cap3 c.len (rf.app ((repE x y (o3 && !decide (x ∈ ns0)) k1 s1 n1 op1 ns1 xa xb xc).fx (.alt k0 s0 n0 ns0) .nil)) r → rs - need YB o3 (parts xa xb xc).count ≤ rm13 → rm13 ≤ rs → Q .normal ⟨#[.pointer (some ⟨rb, 0, none⟩), .pointer (some ⟨bk, of, none⟩), .bool true, u3, u4, u5, u6, .pointer (some ⟨B7, 0, none⟩), u8, u9, .int .i64 g1.len, u11, u12, u13, u14, u15, u16, u17, u18, u19, u20, u21, u22, u23, u24, u25, u26, u27, u28, u29, u30, u31, u32, u33, u34, u35, u36, u37, u38, u39, u40, u41, u42, u43, u44, u45, u46, u47, u48, u49, u50, u51, u52, u53, u54, u55, u56, u57, u58, u59, u60, u61, u62, u63, u64, u65, u66, u67, u68, u69, u70, u71, u72, u73, u74, u75, u76, u77, u78, u79, u80, u81, u82, u83, u84, u85, u86, u87, u88, u89, u90, u91, u92, u93, u94, u95, u96, u97, u98, u99, u100, u101, u102, u103, u104, u105, u106, u107, u108, u109, u110, u111, u112, u113, u114, u115, u116, u117, u118, u119, u120, u121, u122, u123, u124, u125, u126, u127, u128, u129, u130, u131, u132, u133, u134, u135, u136, u137, u138, u139, u140, u141, u142, u143, u144, u145, u146, u147, u148, u149, u150, u151, u152, u153, u154, u155, u156, u157, u158, x159, x160, x161, x162, x163, x164, x165, x166, x167, x168, x169, x170, x171, x172, x173, x174, x175, x176, x177, x178, x179, x180, x181, x182, x183, u184, u185], []⟩ wE) :
    cpR25.wp Tryz.prog Q ⟨#[.pointer (some ⟨rb, 0, none⟩), .pointer (some ⟨bk, of, none⟩), .bool true, u3, u4, u5, u6, .pointer (some ⟨B7, 0, none⟩), u8, u9, .int .i64 g1.len, u11, u12, u13, u14, u15, u16, u17, u18, u19, u20, u21, u22, u23, u24, u25, u26, u27, u28, u29, u30, u31, u32, u33, u34, u35, u36, u37, u38, u39, u40, u41, u42, u43, u44, u45, u46, u47, u48, u49, u50, u51, u52, u53, u54, u55, u56, u57, u58, u59, u60, u61, u62, u63, u64, u65, u66, u67, u68, u69, u70, u71, u72, u73, u74, u75, u76, u77, u78, u79, u80, u81, u82, u83, u84, u85, u86, u87, u88, u89, u90, u91, u92, u93, u94, u95, u96, u97, u98, u99, u100, u101, u102, u103, u104, u105, u106, u107, u108, u109, u110, u111, u112, u113, u114, u115, u116, u117, u118, u119, u120, u121, u122, u123, u124, u125, u126, u127, u128, u129, u130, u131, u132, u133, u134, u135, u136, u137, u138, u139, u140, u141, u142, u143, u144, u145, u146, u147, u148, u149, u150, u151, u152, u153, u154, u155, u156, u157, u158, u159, u160, u161, u162, u163, u164, u165, u166, u167, u168, u169, u170, u171, u172, u173, u174, u175, u176, u177, u178, u179, u180, u181, u182, u183, u184, u185], []⟩ wr := by
  obtain ⟨hc0, hc1, hc2, hc3, hj0, hj1, hj2, hj3, hj4, hj5, hj6, hj7, hj8, hj9, hj10, hj11⟩ := hcells
  have hMr := hP.rp.hM
  have hBr := hP.lt
  have hl6 := hP.l6
  have hl7 := hP.l7
  have hlr := hP.lr
  have hlb := hP.lb
  have hgl := hst.low
  have hgw := hst.lt
  have td : wr.grownBy wr.drew (some rb) := mz_drew ⟨rfl, rfl, rfl, Nat.le_refl _, fun _ _ _ => rfl⟩
  have hkd : Keep (Old M) (Old M) wr wr.drew := fun g hg => ⟨hg, fun _ => rfl⟩
  have hPd := hP.copy (w' := wr.drew) (room' := rs) td hP.rp.rp (Int.le_refl _)
  have hSd := hst.grow td (fun q e => by cases e; exact ⟨hMr, by omega⟩)
  have hgB : B7 ≠ g := by omega
  have hgb : bk ≠ g := by omega
  have hgr0 : rb ≠ g := by omega
  have hgbb : bb ≠ g := by omega
  have hbr : bb ≠ rb := by omega
  have hbkr := hPd.ex.ne
  have hblt : bb < wr.drew.heap.size := show bb < wr.heap.size by omega
  have hklt : bk < wr.drew.heap.size := hPd.ex.lt
  have hSK : ∀ w' : World, wr.drew.grownBy w' (some rb) → w'.cell? ⟨B7, 7, none⟩ = some (.slice (some ⟨g, 0, none⟩) c.len cap3) → w'.cell? ⟨rb, 0, none⟩ = some (.string (bt x)) → (w'.cell? ⟨B7, 7, none⟩ = some (.slice (some ⟨g, 0, none⟩) c.len cap3) ∧ w'.cell? ⟨bk, of + 7, none⟩ = some (.slice (some ⟨bb, oo, none⟩) c.len cc) ∧ w'.cell? ⟨bk, of + 1, none⟩ = some (.string (bt s)) ∧ w'.cell? ⟨rb, 0, none⟩ = some (.string (bt x)) ∧ w'.cell? ⟨bb, oo + g1.len * 12, none⟩ = some (.int .i64 k0) ∧ w'.cell? ⟨bb, oo + g1.len * 12 + 1, none⟩ = some (.string (bt s0)) ∧ w'.cell? ⟨bb, oo + g1.len * 12 + 2, none⟩ = some (.int .i64 n0) ∧ w'.cell? ⟨bb, oo + g1.len * 12 + 3, none⟩ = some (.slice a3 ns0.length q3) ∧ w'.cell? ⟨bb, oo + g1.len * 12 + 4, none⟩ = some (.int .i64 k1) ∧ w'.cell? ⟨bb, oo + g1.len * 12 + 5, none⟩ = some (.string (bt s1)) ∧ w'.cell? ⟨bb, oo + g1.len * 12 + 6, none⟩ = some (.int .i64 n1) ∧ w'.cell? ⟨bb, oo + g1.len * 12 + 7, none⟩ = some (.int .i64 op1) ∧ w'.cell? ⟨bb, oo + g1.len * 12 + 8, none⟩ = some (.slice xn1 ns1.length xn2) ∧ w'.cell? ⟨bb, oo + g1.len * 12 + 9, none⟩ = some (.slice xa1 xa.len xa2) ∧ w'.cell? ⟨bb, oo + g1.len * 12 + 10, none⟩ = some (.slice xb1 xb.len xb2) ∧ w'.cell? ⟨bb, oo + g1.len * 12 + 11, none⟩ = some (.slice xc1 xc.len xc2)) := fun w' t h1 h2 => by
    have eb : ∀ o, w'.cell? ⟨bb, o, none⟩ = wr.drew.cell? ⟨bb, o, none⟩ := fun o => World.cell?_of_block (w := wr.drew) (w' := w') (a := ⟨bb, o, none⟩) (t.block bb hblt (fun e => hbr (Option.some.inj e)))
    have ek : ∀ o, w'.cell? ⟨bk, o, none⟩ = wr.drew.cell? ⟨bk, o, none⟩ := fun o => World.cell?_of_block (w := wr.drew) (w' := w') (a := ⟨bk, o, none⟩) (t.block bk hklt (fun e => hbkr (Option.some.inj e)))
    exact ⟨h1, (ek _).trans hc1, (ek _).trans hc2, h2, (eb _).trans hj0, (eb _).trans hj1, (eb _).trans hj2, (eb _).trans hj3, (eb _).trans hj4, (eb _).trans hj5, (eb _).trans hj6, (eb _).trans hj7, (eb _).trans hj8, (eb _).trans hj9, (eb _).trans hj10, (eb _).trans hj11⟩
  have hSQ : ∀ (w' : World) {o : Nat} {v0 v1 v2 v3 v4 v5 v6 v7 v8 v9 v10 v11 : Value}, ((fun w' : World => w'.cell? ⟨B7, 7, none⟩ = some (.slice (some ⟨g, 0, none⟩) c.len cap3) ∧ w'.cell? ⟨bk, of + 7, none⟩ = some (.slice (some ⟨bb, oo, none⟩) c.len cc) ∧ w'.cell? ⟨bk, of + 1, none⟩ = some (.string (bt s)) ∧ w'.cell? ⟨rb, 0, none⟩ = some (.string (bt x)) ∧ w'.cell? ⟨bb, oo + g1.len * 12, none⟩ = some (.int .i64 k0) ∧ w'.cell? ⟨bb, oo + g1.len * 12 + 1, none⟩ = some (.string (bt s0)) ∧ w'.cell? ⟨bb, oo + g1.len * 12 + 2, none⟩ = some (.int .i64 n0) ∧ w'.cell? ⟨bb, oo + g1.len * 12 + 3, none⟩ = some (.slice a3 ns0.length q3) ∧ w'.cell? ⟨bb, oo + g1.len * 12 + 4, none⟩ = some (.int .i64 k1) ∧ w'.cell? ⟨bb, oo + g1.len * 12 + 5, none⟩ = some (.string (bt s1)) ∧ w'.cell? ⟨bb, oo + g1.len * 12 + 6, none⟩ = some (.int .i64 n1) ∧ w'.cell? ⟨bb, oo + g1.len * 12 + 7, none⟩ = some (.int .i64 op1) ∧ w'.cell? ⟨bb, oo + g1.len * 12 + 8, none⟩ = some (.slice xn1 ns1.length xn2) ∧ w'.cell? ⟨bb, oo + g1.len * 12 + 9, none⟩ = some (.slice xa1 xa.len xa2) ∧ w'.cell? ⟨bb, oo + g1.len * 12 + 10, none⟩ = some (.slice xb1 xb.len xb2) ∧ w'.cell? ⟨bb, oo + g1.len * 12 + 11, none⟩ = some (.slice xc1 xc.len xc2))) w' → ((fun w' : World => w'.cell? ⟨B7, 7, none⟩ = some (.slice (some ⟨g, 0, none⟩) c.len cap3) ∧ w'.cell? ⟨bk, of + 7, none⟩ = some (.slice (some ⟨bb, oo, none⟩) c.len cc) ∧ w'.cell? ⟨bk, of + 1, none⟩ = some (.string (bt s)) ∧ w'.cell? ⟨rb, 0, none⟩ = some (.string (bt x)) ∧ w'.cell? ⟨bb, oo + g1.len * 12, none⟩ = some (.int .i64 k0) ∧ w'.cell? ⟨bb, oo + g1.len * 12 + 1, none⟩ = some (.string (bt s0)) ∧ w'.cell? ⟨bb, oo + g1.len * 12 + 2, none⟩ = some (.int .i64 n0) ∧ w'.cell? ⟨bb, oo + g1.len * 12 + 3, none⟩ = some (.slice a3 ns0.length q3) ∧ w'.cell? ⟨bb, oo + g1.len * 12 + 4, none⟩ = some (.int .i64 k1) ∧ w'.cell? ⟨bb, oo + g1.len * 12 + 5, none⟩ = some (.string (bt s1)) ∧ w'.cell? ⟨bb, oo + g1.len * 12 + 6, none⟩ = some (.int .i64 n1) ∧ w'.cell? ⟨bb, oo + g1.len * 12 + 7, none⟩ = some (.int .i64 op1) ∧ w'.cell? ⟨bb, oo + g1.len * 12 + 8, none⟩ = some (.slice xn1 ns1.length xn2) ∧ w'.cell? ⟨bb, oo + g1.len * 12 + 9, none⟩ = some (.slice xa1 xa.len xa2) ∧ w'.cell? ⟨bb, oo + g1.len * 12 + 10, none⟩ = some (.slice xb1 xb.len xb2) ∧ w'.cell? ⟨bb, oo + g1.len * 12 + 11, none⟩ = some (.slice xc1 xc.len xc2))) ((((((((((((w'.setCell ⟨g, o, none⟩ v0).setCell ⟨g, o + 1, none⟩ v1).setCell ⟨g, o + 2, none⟩ v2).setCell ⟨g, o + 3, none⟩ v3).setCell ⟨g, o + 4, none⟩ v4).setCell ⟨g, o + 5, none⟩ v5).setCell ⟨g, o + 6, none⟩ v6).setCell ⟨g, o + 7, none⟩ v7).setCell ⟨g, o + 8, none⟩ v8).setCell ⟨g, o + 9, none⟩ v9).setCell ⟨g, o + 10, none⟩ v10).setCell ⟨g, o + 11, none⟩ v11) := fun w' o v0 v1 v2 v3 v4 v5 v6 v7 v8 v9 v10 v11 h => by
    dsimp only at h ⊢
    obtain ⟨i1, i2, i3, i4, j0, j1, j2, j3, j4, j5, j6, j7, j8, j9, j10, j11⟩ := h
    exact ⟨(sets12_cell hgB).trans i1, (sets12_cell hgb).trans i2, (sets12_cell hgb).trans i3, (sets12_cell hgr0).trans i4, (sets12_cell hgbb).trans j0, (sets12_cell hgbb).trans j1, (sets12_cell hgbb).trans j2, (sets12_cell hgbb).trans j3, (sets12_cell hgbb).trans j4, (sets12_cell hgbb).trans j5, (sets12_cell hgbb).trans j6, (sets12_cell hgbb).trans j7, (sets12_cell hgbb).trans j8, (sets12_cell hgbb).trans j9, (sets12_cell hgbb).trans j10, (sets12_cell hgbb).trans j11⟩
  have HSP := Lib.hid (show ((fun w' : World => w'.cell? ⟨B7, 7, none⟩ = some (.slice (some ⟨g, 0, none⟩) c.len cap3) ∧ w'.cell? ⟨bk, of + 7, none⟩ = some (.slice (some ⟨bb, oo, none⟩) c.len cc) ∧ w'.cell? ⟨bk, of + 1, none⟩ = some (.string (bt s)) ∧ w'.cell? ⟨rb, 0, none⟩ = some (.string (bt x)) ∧ w'.cell? ⟨bb, oo + g1.len * 12, none⟩ = some (.int .i64 k0) ∧ w'.cell? ⟨bb, oo + g1.len * 12 + 1, none⟩ = some (.string (bt s0)) ∧ w'.cell? ⟨bb, oo + g1.len * 12 + 2, none⟩ = some (.int .i64 n0) ∧ w'.cell? ⟨bb, oo + g1.len * 12 + 3, none⟩ = some (.slice a3 ns0.length q3) ∧ w'.cell? ⟨bb, oo + g1.len * 12 + 4, none⟩ = some (.int .i64 k1) ∧ w'.cell? ⟨bb, oo + g1.len * 12 + 5, none⟩ = some (.string (bt s1)) ∧ w'.cell? ⟨bb, oo + g1.len * 12 + 6, none⟩ = some (.int .i64 n1) ∧ w'.cell? ⟨bb, oo + g1.len * 12 + 7, none⟩ = some (.int .i64 op1) ∧ w'.cell? ⟨bb, oo + g1.len * 12 + 8, none⟩ = some (.slice xn1 ns1.length xn2) ∧ w'.cell? ⟨bb, oo + g1.len * 12 + 9, none⟩ = some (.slice xa1 xa.len xa2) ∧ w'.cell? ⟨bb, oo + g1.len * 12 + 10, none⟩ = some (.slice xb1 xb.len xb2) ∧ w'.cell? ⟨bb, oo + g1.len * 12 + 11, none⟩ = some (.slice xc1 xc.len xc2))) wr.drew from ⟨hc0, hc1, hc2, hc3, hj0, hj1, hj2, hj3, hj4, hj5, hj6, hj7, hj8, hj9, hj10, hj11⟩)
  have HSK := Lib.hid hSK
  have HSQ := Lib.hid hSQ
  have HPd := Lib.hid hPd
  have HSd := Lib.hid hSd
  have HXe := Lib.hid (And.intro (hv3.keep hkd) (hx.keep hkd))
  have HCn := Lib.hid (And.intro hcn hnd)
  have HC := Lib.hid hC
  have HOo := Lib.hid hOo
  obtain ⟨z, hz⟩ : ∃ z, repE x y (o3 && !decide (x ∈ ns0)) k1 s1 n1 op1 ns1 xa xb xc = z := ⟨_, rfl⟩
  rw [hz] at H
  have HZ := Lib.hid hz
  have HH := Lib.hid H
  clear hz
  have ho12 : g1.len * 12 + 12 ≤ c.len * (4 + 8) := by omega
  unfold maxLen at hcm
  clear hc0 hc1 hc2 hc3 hj0 hj1 hj2 hj3 hj4 hj5 hj6 hj7 hj8 hj9 hj10 hj11 hSK hSQ hPd hSd hkd td hv3 hx hcn hnd hC hOo H hP hst hbkr hblt hklt hgB hgb hgr0 hgbb hbr hlr hlb hl6 hl7 hgw hgl hBr hMr
  have hne : (!(s == x)) = o3 := by
    rw [← ho3]
    by_cases h : s = x <;> simp [h]
  clear ho3
  conv => arg 2; whnf
  refine region_pair (fun w' : World => w'.cell? ⟨B7, 7, none⟩ = some (.slice (some ⟨g, 0, none⟩) c.len cap3) ∧ w'.cell? ⟨bk, of + 7, none⟩ = some (.slice (some ⟨bb, oo, none⟩) c.len cc) ∧ w'.cell? ⟨bk, of + 1, none⟩ = some (.string (bt s)) ∧ w'.cell? ⟨rb, 0, none⟩ = some (.string (bt x)) ∧ w'.cell? ⟨bb, oo + g1.len * 12, none⟩ = some (.int .i64 k0) ∧ w'.cell? ⟨bb, oo + g1.len * 12 + 1, none⟩ = some (.string (bt s0)) ∧ w'.cell? ⟨bb, oo + g1.len * 12 + 2, none⟩ = some (.int .i64 n0) ∧ w'.cell? ⟨bb, oo + g1.len * 12 + 3, none⟩ = some (.slice a3 ns0.length q3) ∧ w'.cell? ⟨bb, oo + g1.len * 12 + 4, none⟩ = some (.int .i64 k1) ∧ w'.cell? ⟨bb, oo + g1.len * 12 + 5, none⟩ = some (.string (bt s1)) ∧ w'.cell? ⟨bb, oo + g1.len * 12 + 6, none⟩ = some (.int .i64 n1) ∧ w'.cell? ⟨bb, oo + g1.len * 12 + 7, none⟩ = some (.int .i64 op1) ∧ w'.cell? ⟨bb, oo + g1.len * 12 + 8, none⟩ = some (.slice xn1 ns1.length xn2) ∧ w'.cell? ⟨bb, oo + g1.len * 12 + 9, none⟩ = some (.slice xa1 xa.len xa2) ∧ w'.cell? ⟨bb, oo + g1.len * 12 + 10, none⟩ = some (.slice xb1 xb.len xb2) ∧ w'.cell? ⟨bb, oo + g1.len * 12 + 11, none⟩ = some (.slice xc1 xc.len xc2)) 23 25 (by kernel_rfl) (by kernel_rfl) hQ HSP.out ?_
  simp only [List.take_succ_cons, List.take_zero, List.drop_succ_cons, List.drop_zero, List.cons_append, List.nil_append, Nat.reduceSub, Nat.reduceAdd]
  refine hwk_want (v := ?_) (by rfl) ?_ ?_
  rotate_left 1
  · intro w' hSw
    try dsimp only at hSw
    go_simp
    all_goals (with_reducible rfl)
  try simp only [Act.put, List.setIfInBounds_toArray, List.set_cons_zero, List.set_cons_succ]
  refine hwk_want (v := ?_) (by rfl) ?_ ?_
  rotate_left 1
  · intro w' hSw
    try dsimp only at hSw
    go_simp
    all_goals (with_reducible rfl)
  try simp only [Act.put, List.setIfInBounds_toArray, List.set_cons_zero, List.set_cons_succ]
  refine hwk_want (v := ?_) (by rfl) ?_ ?_
  rotate_left 1
  · intro w' hSw
    try dsimp only at hSw
    go_simp
    all_goals (with_reducible rfl)
  try simp only [Act.put, List.setIfInBounds_toArray, List.set_cons_zero, List.set_cons_succ]
  refine hwk_want (v := ?_) (by rfl) ?_ ?_
  rotate_left 1
  · intro w' hSw
    try dsimp only at hSw
    go_simp
    all_goals (with_reducible rfl)
  try simp only [Act.put, List.setIfInBounds_toArray, List.set_cons_zero, List.set_cons_succ]
  refine hwk_want (v := ?_) (by rfl) ?_ ?_
  rotate_left 1
  · intro w' hSw
    try dsimp only at hSw
    go_simp
    all_goals (with_reducible rfl)
  try simp only [Act.put, List.setIfInBounds_toArray, List.set_cons_zero, List.set_cons_succ]
  refine hwk_want (v := ?_) (by rfl) ?_ ?_
  rotate_left 1
  · intro w' hSw
    try dsimp only at hSw
    go_simp
    all_goals (with_reducible rfl)
  try simp only [Act.put, List.setIfInBounds_toArray, List.set_cons_zero, List.set_cons_succ]
  refine hwk_want (v := ?_) (by rfl) ?_ ?_
  rotate_left 1
  · intro w' hSw
    try dsimp only at hSw
    go_simp
    all_goals (with_reducible rfl)
  try simp only [Act.put, List.setIfInBounds_toArray, List.set_cons_zero, List.set_cons_succ]
  refine hwk_want (v := ?_) (by rfl) ?_ ?_
  rotate_left 1
  · intro w' hSw
    try dsimp only at hSw
    go_simp
    all_goals (with_reducible rfl)
  try simp only [Act.put, List.setIfInBounds_toArray, List.set_cons_zero, List.set_cons_succ]
  refine hwk_want (v := ?_) (by rfl) ?_ ?_
  rotate_left 1
  · intro w' hSw
    try dsimp only at hSw
    go_simp
    all_goals (with_reducible rfl)
  try simp only [Act.put, List.setIfInBounds_toArray, List.set_cons_zero, List.set_cons_succ]
  refine hwk_want (v := ?_) (by rfl) ?_ ?_
  rotate_left 1
  · intro w' hSw
    try dsimp only at hSw
    go_simp
    all_goals (with_reducible rfl)
  try simp only [Act.put, List.setIfInBounds_toArray, List.set_cons_zero, List.set_cons_succ]
  refine hwk_want (v := ?_) (by rfl) ?_ ?_
  rotate_left 1
  · intro w' hSw
    try dsimp only at hSw
    go_simp
    all_goals (with_reducible rfl)
  try simp only [Act.put, List.setIfInBounds_toArray, List.set_cons_zero, List.set_cons_succ]
  refine hwk_want (v := ?_) (by rfl) ?_ ?_
  rotate_left 1
  · intro w' hSw
    try dsimp only at hSw
    go_simp
    all_goals (with_reducible rfl)
  try simp only [Act.put, List.setIfInBounds_toArray, List.set_cons_zero, List.set_cons_succ]
  refine hwk_want (v := ?_) (by rfl) ?_ ?_
  rotate_left 1
  · intro w' hSw
    try dsimp only at hSw
    go_simp
    all_goals (with_reducible rfl)
  try simp only [Act.put, List.setIfInBounds_toArray, List.set_cons_zero, List.set_cons_succ]
  refine hwk_want (v := ?_) (by rfl) ?_ ?_
  rotate_left 1
  · intro w' hSw
    try dsimp only at hSw
    go_simp
    all_goals (with_reducible rfl)
  try simp only [Act.put, List.setIfInBounds_toArray, List.set_cons_zero, List.set_cons_succ]
  refine hwk_want (v := ?_) (by rfl) ?_ ?_
  rotate_left 1
  · intro w' hSw
    try dsimp only at hSw
    go_simp
    all_goals (with_reducible rfl)
  try simp only [Act.put, List.setIfInBounds_toArray, List.set_cons_zero, List.set_cons_succ]
  refine hwk_want (v := ?_) (by rfl) ?_ ?_
  rotate_left 1
  · intro w' hSw
    try dsimp only at hSw
    go_simp
    all_goals (with_reducible rfl)
  try simp only [Act.put, List.setIfInBounds_toArray, List.set_cons_zero, List.set_cons_succ]
  refine hwk_want (v := ?_) (by rfl) ?_ ?_
  rotate_left 1
  · intro w' hSw
    try dsimp only at hSw
    go_simp
    all_goals (with_reducible rfl)
  try simp only [Act.put, List.setIfInBounds_toArray, List.set_cons_zero, List.set_cons_succ]
  refine hwk_want (v := ?_) (by rfl) ?_ ?_
  rotate_left 1
  · intro w' hSw
    try dsimp only at hSw
    go_simp
    all_goals (with_reducible rfl)
  try simp only [Act.put, List.setIfInBounds_toArray, List.set_cons_zero, List.set_cons_succ]
  refine hwk_want (v := ?_) (by rfl) ?_ ?_
  rotate_left 1
  · intro w' hSw
    try dsimp only at hSw
    go_simp
    all_goals (with_reducible rfl)
  try simp only [Act.put, List.setIfInBounds_toArray, List.set_cons_zero, List.set_cons_succ]
  refine hwk_want (v := ?_) (by rfl) ?_ ?_
  rotate_left 1
  · intro w' hSw
    try dsimp only at hSw
    go_simp
    all_goals (with_reducible rfl)
  try simp only [Act.put, List.setIfInBounds_toArray, List.set_cons_zero, List.set_cons_succ]
  refine hwk_want (v := ?_) (by rfl) ?_ ?_
  rotate_left 1
  · intro w' hSw
    try dsimp only at hSw
    go_simp
    all_goals (with_reducible rfl)
  try simp only [Act.put, List.setIfInBounds_toArray, List.set_cons_zero, List.set_cons_succ]
  refine hwk_want (v := ?_) (by rfl) ?_ ?_
  rotate_left 1
  · intro w' hSw
    try dsimp only at hSw
    go_simp
    all_goals (with_reducible rfl)
  try simp only [Act.put, List.setIfInBounds_toArray, List.set_cons_zero, List.set_cons_succ]
  refine hwk_want (v := ?_) (by rfl) ?_ ?_
  rotate_left 1
  · intro w' hSw
    try dsimp only at hSw
    go_simp
    all_goals (with_reducible rfl)
  try simp only [Act.put, List.setIfInBounds_toArray, List.set_cons_zero, List.set_cons_succ]
  refine hwk_nil ?_
  refine two_want rfl (by rfl) (fun K hK => ?_)
  replace hK := Lib.hid hK
  go_simp
  go_at_call 42
  have hcon := (alt_any M rb ybk yof x y YB n o3 (fun o h => HC.out o (fun q => HOo.out (h q))) k0 s0 n0 _ ns0 k1 s1 n1 op1 _ _ _ _ ns1 xa xb xc wr.drew rs HCn.out.1.1 HXe.out.1 HXe.out.2 HPd.out.rp HCn.out.1.2.2.2 HCn.out.1.2.2.1 HCn.out.1.2.1 HCn.out.2)
  rw [HZ.out] at hcon
  refine hcon.mono ?_
  clear hcon
  rintro e w13 hpost
  obtain ⟨a13, c13, an13, cn13, aa13, ca13, ab13, cb13, ac13, cc13, rm13, rfl, hD13, hle13, hge13, hg13⟩ := alt_done HPd.out HSd.out hlow3 hpost
  clear hpost
  have HS13 := Lib.hid (HSK.out w13 hg13 (cell_of hD13.cp.h7 7 _ rfl) (cell_of hD13.cp.rp.rp 0 _ rfl))
  obtain ⟨⟨z0, z1, z2, z3, z4, z5, z6, z7, z8, z9, z10, z11, y0, y1, y2, y3, y4, y5, y6, y7, y8, y9, y10, y11⟩, fz⟩ := hD13.st.cells12 ho12
  have HD13 := Lib.hid hD13
  have HG13 := Lib.hid (And.intro hle13 (And.intro hge13 hg13))
  clear hD13 hle13 hge13 hg13
  refine hK.out _ _ HS13.out ?_
  clear hK K
  try simp only [Act.put, List.setIfInBounds_toArray, List.set_cons_zero, List.set_cons_succ]
  refine hwk_want (v := ?_) (by rfl) ?_ ?_
  rotate_left 1
  · intro w' hSw
    try dsimp only at hSw
    go_simp
    all_goals (with_reducible rfl)
  try simp only [Act.put, List.setIfInBounds_toArray, List.set_cons_zero, List.set_cons_succ]
  refine hwk_nil ?_
  refine last_want rfl (by rfl) (fun K hK => ?_)
  replace hK := Lib.hid hK
  go_simp
  refine hK.out _ _ (HSQ.out w13 HS13.out) ?_
  clear hK K
  have hput := HD13.out.st.put4 (o := g1.len * 12) (by rw [hrf]) HD13.out.nx HD13.out.ex
  generalize hwE : World.setCell (World.setCell (World.setCell _ _ _) _ _) _ _ = wE
  have tE : w13.grownBy wE (some g) := by rw [← hwE]; exact sets12 (o := g1.len * 12)
  rw [hwE] at hput
  have hPE := HD13.out.cp.still tE (fun q e => by cases e; have := HD13.out.st.low; omega)
  exact HH.out _ _ _ _ _ _ _ _ _ _ _ _ _ _ _ _ _ _ _ _ _ _ _ _ _ w13 wE rm13 HG13.out.2.2 tE HD13.out.cp hPE hput HG13.out.1 HG13.out.2.1
end Go.Proofs.YtfcogjlojfcfkaaGreat
