/- The last step of OccurFree: what is replaced is as much greater. Bounds on how great the expression is. -/
import Derived.Test.YtfcogjlojfcfkaaGreatNL
import Derived.Test.YtfcogjlojfcfkaaGreatNK
import Derived.Test.YtfcogjlojfcfkaaGreatNE
import Derived.Test.YtfcogjlojfcfkaaGreatND
namespace Go.Proofs.YtfcogjlojfcfkaaGreat
open Go.RowKit Ex0
attribute [local go_sem] bt_size bt_list bt_toList

noncomputable def lwR11 : Code := ((Tryz.f3.body.bind (codeAt 11)).getD .skip)

set_option maxHeartbeats 4000000 in
set_option maxRecDepth 100000 in
theorem free_end_on (HCp : ∀ (M rb ybk yof : Nat) (x : List UInt8) (y : By) (YB n : Nat), costE y.ns y.a y.b y.c ≤ 1048576 → (parts y.a y.b y.c).count ≤ 131072 → CopyC M rb ybk yof x y YB true n) (HA : AwakeC)
    (k : Int) (s : List UInt8) (nn op : Int) (an : Option Addr) (cn : Nat) (aa : Option Addr) (ca : Nat) (ab : Option Addr) (cb : Nat) (ac : Option Addr) (cc : Nat) (ns : List (List UInt8)) (a b c : Fx) (x : List UInt8) (w wr : World) (m : Nat) (q : Bool)
    (hv : ExV (Old w.heap.size) w (.slice an ns.length cn) (.slice aa a.len ca) (.slice ab b.len cb) (.slice ac c.len cc) ns a b c) (hbel : Below (w.heap.size + 1) (w.alloc (exBox k s nn op (.slice an ns.length cn) (.slice aa a.len ca) (.slice ab b.len cb) (.slice ac c.len cc))) wr)
    (hcnt : 1 + (parts a b c).count < 20000) (hce : costE ns a b c ≤ 1048576) (hby : bytesE ns a b c ≤ 1000000000) (hr : rightB k s nn op ns a b c = true) (hm : (usesE x k s ns a b c).1 = m) (hpos : 0 < m)
    {Q : Exit → Act → World → Prop} (hQ : ∀ c a d v w, Q (.panic c) (a.put d v) w → Q (.panic c) a w) (u0 u3 u4 u7 u9 u11 u12 u13 u14 u15 u16 u17 u18 u19 u20 u21 u22 u23 u24 u25 u26 u27 u28 u29 u30 u31 u32 u33 u34 u35 u36 u37 u38 u39 u40 u41 u42 u43 u44 u45 u46 u47 u48 u49 u50 u51 u52 u53 u54 u55 u56 u57 u58 u59 u60 u61 u62 u63 u64 u65 u66 u67 u68 u69 u70 u71 u72 u73 u74 u75 u76 u77 u78 u79 u80 u81 u82 u83 u84 u85 u86 u87 u88 u89 u90 u91 : Value)
    (H : ∀ (x53 x54 x55 x56 x57 x58 x59 x60 x61 x62 x63 x64 x65 x66 x67 x68 x69 x70 x71 x72 x73 x74 x75 x76 x77 x78 x79 x80 x81 x82 x83 x84 x85 x86 x87 x88 x89 x90 x91 : Value) (wE : World), Below (w.heap.size + 1) (w.alloc (exBox k s nn op (.slice an ns.length cn) (.slice aa a.len ca) (.slice ab b.len cb) (.slice ac c.len cc))) wE → Q .normal ⟨#[u0, .string (bt x), .pointer (some ⟨w.heap.size, 0, none⟩), u3, .bool true, .int .i64 m, .bool q, u7, .bool true, u9, .int .i64 0, u11, u12, u13, u14, u15, u16, u17, u18, u19, u20, u21, u22, u23, u24, u25, u26, u27, u28, u29, u30, u31, u32, u33, u34, u35, u36, u37, u38, u39, u40, u41, u42, u43, u44, u45, u46, u47, u48, u49, u50, u51, u52, x53, x54, x55, x56, x57, x58, x59, x60, x61, x62, x63, x64, x65, x66, x67, x68, x69, x70, x71, x72, x73, x74, x75, x76, x77, x78, x79, x80, x81, x82, x83, x84, x85, x86, x87, x88, x89, x90, x91], []⟩ wE) :
    lwR11.wp Tryz.prog Q ⟨#[u0, .string (bt x), .pointer (some ⟨w.heap.size, 0, none⟩), u3, u4, .int .i64 m, .bool q, u7, .bool true, u9, .int .i64 0, u11, u12, u13, u14, u15, u16, u17, u18, u19, u20, u21, u22, u23, u24, u25, u26, u27, u28, u29, u30, u31, u32, u33, u34, u35, u36, u37, u38, u39, u40, u41, u42, u43, u44, u45, u46, u47, u48, u49, u50, u51, u52, u53, u54, u55, u56, u57, u58, u59, u60, u61, u62, u63, u64, u65, u66, u67, u68, u69, u70, u71, u72, u73, u74, u75, u76, u77, u78, u79, u80, u81, u82, u83, u84, u85, u86, u87, u88, u89, u90, u91], []⟩ wr := by
  have HK := Lib.hid (show ∀ W, Below (w.heap.size + 1) (w.alloc (exBox k s nn op (.slice an ns.length cn) (.slice aa a.len ca) (.slice ab b.len cb) (.slice ac c.len cc))) W → ExV (Old W.heap.size) W (.slice an ns.length cn) (.slice aa a.len ca) (.slice ab b.len cb) (.slice ac c.len cc) ns a b c ∧ w.heap.size + 1 ≤ W.heap.size from
    fun W h => ⟨hv.keep (keep_up (below_old h) (Nat.le_refl _)), by have := h.size; simp at this; omega⟩)
  have HCl := Lib.hid (show ∀ W, Below (w.heap.size + 1) (w.alloc (exBox k s nn op (.slice an ns.length cn) (.slice aa a.len ca) (.slice ab b.len cb) (.slice ac c.len cc))) W → (fun w' : World => w'.cell? ⟨w.heap.size, 0, none⟩ = some (.int .i64 k) ∧ w'.cell? ⟨w.heap.size, 1, none⟩ = some (.string (bt s)) ∧ w'.cell? ⟨w.heap.size, 2, none⟩ = some (.int .i64 nn) ∧ w'.cell? ⟨w.heap.size, 3, none⟩ = some (.int .i64 op) ∧ w'.cell? ⟨w.heap.size, 4, none⟩ = some (.slice an ns.length cn) ∧ w'.cell? ⟨w.heap.size, 5, none⟩ = some (.slice aa a.len ca) ∧ w'.cell? ⟨w.heap.size, 6, none⟩ = some (.slice ab b.len cb) ∧ w'.cell? ⟨w.heap.size, 7, none⟩ = some (.slice ac c.len cc)) W from fun W h => exBox_cell (Nat.lt_succ_self _) h)
  have HB0 := Lib.hid (show Below (w.heap.size + 1) (w.alloc (exBox k s nn op (.slice an ns.length cn) (.slice aa a.len ca) (.slice ab b.len cb) (.slice ac c.len cc))) wr.drew from ⟨hbel.os, hbel.tape, hbel.output, hbel.size, hbel.block⟩)
  have HBr := Lib.hid hbel
  have hsw : w.heap.size + 1 ≤ wr.heap.size := by have := hbel.size; simp at this; omega
  have HH := Lib.hid H
  have hml : m ≤ 1 + (parts a b c).count := by have := usesE_le x k s ns a b c; rw [parts_count]; omega
  obtain ⟨z, hz⟩ : ∃ z, repE x byApp true k s nn op ns a b c = z := ⟨_, rfl⟩
  obtain ⟨hz1, hz2, _, _⟩ := rep_one x byApp 2 (byApp_ok x) hr hz.symm
  have hzb := repE_bytes x byApp 408 byApp_le.2.1 hz.symm
  rw [hm] at hz2
  have hzc : (parts z.a z.b z.c).count + 1 ≤ 131072 := by omega
  have hzy : ownBytes z.ns z.b z.c + bytesF (parts z.a z.b z.c) ≤ 2147483647 := by
    rw [bytes_parts]
    unfold bytesE at hzb hby
    omega
  have hwA : IntKind.i64.wrap (2 * (m : Int)) = 2 * m := by rw [IntKind.wrap_i64]; omega
  obtain ⟨sz1, hs1⟩ : ∃ v : Int, (((parts a b c).count : Nat) : Int) + 1 = v := ⟨_, rfl⟩
  obtain ⟨sz2, hs2⟩ : ∃ v : Int, (((parts z.a z.b z.c).count : Nat) : Int) + 1 = v := ⟨_, rfl⟩
  have hwB : IntKind.i64.wrap (sz1 + 2 * (m : Int)) = sz2 := by rw [IntKind.wrap_i64]; omega
  have HS1 := Lib.hid hs1
  have HS2 := Lib.hid hs2
  have HZ := Lib.hid hz
  have HRy := Lib.hid (show ownBytes ns b c + bytesF (parts a b c) + (ownBytes byApp.ns byApp.b byApp.c + bytesF (parts byApp.a byApp.b byApp.c)) * (1 + (parts a b c).count) ≤ 2147483647 from by
    have h1 : ownBytes byApp.ns byApp.b byApp.c + bytesF (parts byApp.a byApp.b byApp.c) ≤ 408 := by have := byApp_le.2.1; rw [bytes_parts]; exact this
    have h2 : (ownBytes byApp.ns byApp.b byApp.c + bytesF (parts byApp.a byApp.b byApp.c)) * (1 + (parts a b c).count) ≤ 408 * (1 + (parts a b c).count) := Nat.mul_le_mul_right _ h1
    rw [bytes_parts]
    unfold bytesE at hby
    omega)
  have HNs := Lib.hid (And.intro hcnt (And.intro hce (And.intro hzc (And.intro hzy hby))))
  have HCp := Lib.hid HCp
  have hmz : (0 : Int) ≤ m := by omega
  have d1 : decide ((m : Int) ≥ 0) = true := decide_eq_true hmz
  have d2 : decide ((0 : Int) ≤ m) = true := decide_eq_true hmz
  have d3 : decide ((m : Int) > 0) = true := by exact decide_eq_true (by omega)
  have d4 : decide ((0 : Int) < m) = true := by exact decide_eq_true (by omega)
  have d5 : decide (0 < m) = true := by exact decide_eq_true (by omega)
  clear hv hbel H hz hz1 hz2 hzb hs1 hs2 hcnt hce hby hr hm hzc hzy hpos
  conv => arg 2; whnf
  refine region_seg (fun w' : World => w'.cell? ⟨w.heap.size, 0, none⟩ = some (.int .i64 k) ∧ w'.cell? ⟨w.heap.size, 1, none⟩ = some (.string (bt s)) ∧ w'.cell? ⟨w.heap.size, 2, none⟩ = some (.int .i64 nn) ∧ w'.cell? ⟨w.heap.size, 3, none⟩ = some (.int .i64 op) ∧ w'.cell? ⟨w.heap.size, 4, none⟩ = some (.slice an ns.length cn) ∧ w'.cell? ⟨w.heap.size, 5, none⟩ = some (.slice aa a.len ca) ∧ w'.cell? ⟨w.heap.size, 6, none⟩ = some (.slice ab b.len cb) ∧ w'.cell? ⟨w.heap.size, 7, none⟩ = some (.slice ac c.len cc)) [([(0, 25), (29, 1), (31, 2)], 25), ([(26, 1)], 27), ([], 28), ([], 30), ([(33, 4)], 37)] [(38, 2)] (by kernel_rfl) (by kernel_rfl) hQ (HCl.out _ HB0.out) ?_
  refine segw_go ?_
  simp only [opsOf, List.take_succ_cons, List.take_zero, List.drop_succ_cons, List.drop_zero, List.cons_append, List.nil_append, List.append_nil]
  refine hwk_want (v := ?_) (by rfl) ?_ ?_
  rotate_left 1
  · intro w' hSw
    try dsimp only at hSw
    go_simp
    all_goals (with_reducible rfl)
  try simp only [Act.put, List.setIfInBounds_toArray, List.set_cons_zero, List.set_cons_succ]
  refine hwk_want (v := ?_) (by rfl) ?_ ?_
  rotate_left 1
  · intro w' hSw
    try dsimp only at hSw
    go_simp
    all_goals (with_reducible rfl)
  try simp only [Act.put, List.setIfInBounds_toArray, List.set_cons_zero, List.set_cons_succ]
  refine hwk_want (v := ?_) (by rfl) ?_ ?_
  rotate_left 1
  · intro w' hSw
    try dsimp only at hSw
    go_simp
    all_goals (with_reducible rfl)
  try simp only [Act.put, List.setIfInBounds_toArray, List.set_cons_zero, List.set_cons_succ]
  refine hwk_want (v := ?_) (by rfl) ?_ ?_
  rotate_left 1
  · intro w' hSw
    try dsimp only at hSw
    go_simp
    all_goals (with_reducible rfl)
  try simp only [Act.put, List.setIfInBounds_toArray, List.set_cons_zero, List.set_cons_succ]
  refine hwk_want (v := ?_) (by rfl) ?_ ?_
  rotate_left 1
  · intro w' hSw
    try dsimp only at hSw
    go_simp
    all_goals (with_reducible rfl)
  try simp only [Act.put, List.setIfInBounds_toArray, List.set_cons_zero, List.set_cons_succ]
  refine hwk_want (v := ?_) (by rfl) ?_ ?_
  rotate_left 1
  · intro w' hSw
    try dsimp only at hSw
    go_simp
    all_goals (with_reducible rfl)
  try simp only [Act.put, List.setIfInBounds_toArray, List.set_cons_zero, List.set_cons_succ]
  refine hwk_want (v := ?_) (by rfl) ?_ ?_
  rotate_left 1
  · intro w' hSw
    try dsimp only at hSw
    go_simp
    all_goals (with_reducible rfl)
  try simp only [Act.put, List.setIfInBounds_toArray, List.set_cons_zero, List.set_cons_succ]
  refine hwk_want (v := ?_) (by rfl) ?_ ?_
  rotate_left 1
  · intro w' hSw
    try dsimp only at hSw
    go_simp
    all_goals (with_reducible rfl)
  try simp only [Act.put, List.setIfInBounds_toArray, List.set_cons_zero, List.set_cons_succ]
  refine hwk_skip (by kernel_rfl) ?_
  try simp only [Act.put, List.setIfInBounds_toArray, List.set_cons_zero, List.set_cons_succ]
  refine hwk_skip (by kernel_rfl) ?_
  try simp only [Act.put, List.setIfInBounds_toArray, List.set_cons_zero, List.set_cons_succ]
  refine hwk_want (v := ?_) (by rfl) ?_ ?_
  rotate_left 1
  · intro w' hSw
    try dsimp only at hSw
    go_simp
    all_goals (with_reducible rfl)
  try simp only [Act.put, List.setIfInBounds_toArray, List.set_cons_zero, List.set_cons_succ]
  refine hwk_want (v := ?_) (by rfl) ?_ ?_
  rotate_left 1
  · intro w' hSw
    try dsimp only at hSw
    go_simp
    all_goals (with_reducible rfl)
  try simp only [Act.put, List.setIfInBounds_toArray, List.set_cons_zero, List.set_cons_succ]
  refine hwk_want (v := ?_) (by rfl) ?_ ?_
  rotate_left 1
  · intro w' hSw
    try dsimp only at hSw
    go_simp
    all_goals (with_reducible rfl)
  try simp only [Act.put, List.setIfInBounds_toArray, List.set_cons_zero, List.set_cons_succ]
  refine hwk_want (v := ?_) (by rfl) ?_ ?_
  rotate_left 1
  · intro w' hSw
    try dsimp only at hSw
    go_simp
    all_goals (with_reducible rfl)
  try simp only [Act.put, List.setIfInBounds_toArray, List.set_cons_zero, List.set_cons_succ]
  refine hwk_want (v := ?_) (by rfl) ?_ ?_
  rotate_left 1
  · intro w' hSw
    try dsimp only at hSw
    go_simp
    all_goals (with_reducible rfl)
  try simp only [Act.put, List.setIfInBounds_toArray, List.set_cons_zero, List.set_cons_succ]
  refine hwk_want (v := ?_) (by rfl) ?_ ?_
  rotate_left 1
  · intro w' hSw
    try dsimp only at hSw
    go_simp
    all_goals (with_reducible rfl)
  try simp only [Act.put, List.setIfInBounds_toArray, List.set_cons_zero, List.set_cons_succ]
  refine hwk_want (v := ?_) (by rfl) ?_ ?_
  rotate_left 1
  · intro w' hSw
    try dsimp only at hSw
    go_simp
    all_goals (with_reducible rfl)
  try simp only [Act.put, List.setIfInBounds_toArray, List.set_cons_zero, List.set_cons_succ]
  refine hwk_want (v := ?_) (by rfl) ?_ ?_
  rotate_left 1
  · intro w' hSw
    try dsimp only at hSw
    go_simp
    all_goals (with_reducible rfl)
  try simp only [Act.put, List.setIfInBounds_toArray, List.set_cons_zero, List.set_cons_succ]
  refine hwk_want (v := ?_) (by rfl) ?_ ?_
  rotate_left 1
  · intro w' hSw
    try dsimp only at hSw
    go_simp
    all_goals (with_reducible rfl)
  try simp only [Act.put, List.setIfInBounds_toArray, List.set_cons_zero, List.set_cons_succ]
  refine hwk_want (v := ?_) (by rfl) ?_ ?_
  rotate_left 1
  · intro w' hSw
    try dsimp only at hSw
    go_simp
    all_goals (with_reducible rfl)
  try simp only [Act.put, List.setIfInBounds_toArray, List.set_cons_zero, List.set_cons_succ]
  refine hwk_want (v := ?_) (by rfl) ?_ ?_
  rotate_left 1
  · intro w' hSw
    try dsimp only at hSw
    go_simp
    all_goals (with_reducible rfl)
  try simp only [Act.put, List.setIfInBounds_toArray, List.set_cons_zero, List.set_cons_succ]
  refine hwk_want (v := ?_) (by rfl) ?_ ?_
  rotate_left 1
  · intro w' hSw
    try dsimp only at hSw
    go_simp
    all_goals (with_reducible rfl)
  try simp only [Act.put, List.setIfInBounds_toArray, List.set_cons_zero, List.set_cons_succ]
  refine hwk_want (v := ?_) (by rfl) ?_ ?_
  rotate_left 1
  · intro w' hSw
    try dsimp only at hSw
    go_simp
    all_goals (with_reducible rfl)
  try simp only [Act.put, List.setIfInBounds_toArray, List.set_cons_zero, List.set_cons_succ]
  refine hwk_want (v := ?_) (by rfl) ?_ ?_
  rotate_left 1
  · intro w' hSw
    try dsimp only at hSw
    go_simp
    all_goals (with_reducible rfl)
  try simp only [Act.put, List.setIfInBounds_toArray, List.set_cons_zero, List.set_cons_succ]
  refine hwk_want (v := ?_) (by rfl) ?_ ?_
  rotate_left 1
  · intro w' hSw
    try dsimp only at hSw
    go_simp
    all_goals (with_reducible rfl)
  try simp only [Act.put, List.setIfInBounds_toArray, List.set_cons_zero, List.set_cons_succ]
  refine hwk_want (v := ?_) (by rfl) ?_ ?_
  rotate_left 1
  · intro w' hSw
    try dsimp only at hSw
    go_simp
    all_goals (with_reducible rfl)
  try simp only [Act.put, List.setIfInBounds_toArray, List.set_cons_zero, List.set_cons_succ]
  refine hwk_want (v := ?_) (by rfl) ?_ ?_
  rotate_left 1
  · intro w' hSw
    try dsimp only at hSw
    go_simp
    all_goals (with_reducible rfl)
  try simp only [Act.put, List.setIfInBounds_toArray, List.set_cons_zero, List.set_cons_succ]
  refine hwk_want (v := ?_) (by rfl) ?_ ?_
  rotate_left 1
  · intro w' hSw
    try dsimp only at hSw
    go_simp
    all_goals (with_reducible rfl)
  try simp only [Act.put, List.setIfInBounds_toArray, List.set_cons_zero, List.set_cons_succ]
  refine hwk_nil ?_
  refine segk_want rfl (by rfl) (fun K hK => ?_)
  replace hK := Lib.hid hK
  go_simp
  generalize hw1 : World.drew (World.alloc wr _) = w1
  have hb1 : Below (w.heap.size + 1) (w.alloc (exBox k s nn op (.slice an ns.length cn) (.slice aa a.len ca) (.slice ab b.len cb) (.slice ac c.len cc))) w1 := by rw [← hw1]; exact below_same (HBr.out.alloc hsw _) rfl rfl rfl rfl
  have hrow : w1.heap[wr.heap.size]? = some (.cells #[.int .i64 2, .string ⟨#[]⟩, .int .i64 0, .int .i64 0, .slice none 0 0, .slice none 0 0, .slice none 0 0, .slice none 0 0, .int .i64 2, .string ⟨#[]⟩, .int .i64 0, .int .i64 0, .slice none 0 0, .slice none 0 0, .slice none 0 0, .slice none 0 0] 27 (0, 0)) := by
    rw [← hw1]; exact World.alloc_heap_new wr _
  have hsz1 : w1.heap.size = wr.heap.size + 1 := by rw [← hw1]; show (wr.alloc _).heap.size = _; simp
  clear hw1
  have HB1 := Lib.hid hb1
  have HRow := Lib.hid (And.intro hrow hsz1)
  clear hb1 hrow hsz1
  refine hK.out _ _ (HCl.out _ HB1.out) ?_
  clear hK K
  try simp only [Act.put, List.setIfInBounds_toArray, List.set_cons_zero, List.set_cons_succ]
  refine segw_go ?_
  simp only [opsOf, List.take_succ_cons, List.take_zero, List.drop_succ_cons, List.drop_zero, List.cons_append, List.nil_append, List.append_nil]
  refine hwk_want (v := ?_) (by rfl) ?_ ?_
  rotate_left 1
  · intro w' hSw
    try dsimp only at hSw
    go_simp
    all_goals (with_reducible rfl)
  try simp only [Act.put, List.setIfInBounds_toArray, List.set_cons_zero, List.set_cons_succ]
  refine hwk_nil ?_
  refine segk_want rfl (by rfl) (fun K hK => ?_)
  replace hK := Lib.hid hK
  go_simp
  go_at_call 9
  have hyE : ExV (Old w1.heap.size) w1 (.slice none 0 0) (.slice (some ⟨wr.heap.size, 0, none⟩) 2 2) (.slice none 0 0) (.slice none 0 0) byApp.ns byApp.a byApp.b byApp.c := by
    have hr1 := HRow.out.1
    have z0 : NsV (Old w1.heap.size) w1 (.slice none 0 0) [] := .inl ⟨rfl, _, _, rfl⟩
    have zf : ∀ m, FxV (Old w1.heap.size) w1 m (.slice none 0 0) .nil := fun m => .inl ⟨rfl, _, _, rfl⟩
    refine ⟨z0, .inr ⟨by simp [byApp], wr.heap.size, 0, 2, rfl, by show wr.heap.size < w1.heap.size; have := HRow.out.2; omega, by decide, by decide, ?_⟩, zf 1, zf 4⟩
    refine fxAt_cons.2 ⟨rfl, cell_of hr1 0 _ rfl, cell_of hr1 1 _ rfl, cell_of hr1 2 _ rfl, cell_of hr1 3 _ rfl, ⟨_, _, _, _, cell_of hr1 4 _ rfl, cell_of hr1 5 _ rfl, cell_of hr1 6 _ rfl, cell_of hr1 7 _ rfl, z0, zf 0, zf 1, zf 4⟩, ?_⟩
    exact fxAt_cons.2 ⟨rfl, cell_of hr1 8 _ rfl, cell_of hr1 9 _ rfl, cell_of hr1 10 _ rfl, cell_of hr1 11 _ rfl, ⟨_, _, _, _, cell_of hr1 12 _ rfl, cell_of hr1 13 _ rfl, cell_of hr1 14 _ rfl, cell_of hr1 15 _ rfl, z0, zf 0, zf 1, zf 4⟩, trivial⟩
  have hcon := replace_call HCp.out x k s nn op _ _ _ _ ns a b c byApp _ _ _ _ w1 (HK.out _ HB1.out).1 hyE (by have := HNs.out.1; omega) HNs.out.2.1 (by decide) (by decide) HRy.out
  rw [HZ.out] at hcon
  refine hcon.mono ?_
  clear hcon hyE
  rintro e w2 ⟨vn2, va2, vb2, vc2, rfl, hzx, hb2⟩
  have HB2 := Lib.hid (blwS HB1.out hb2 (HK.out _ HB1.out).2)
  have HZx := Lib.hid hzx
  clear hb2 hzx
  refine hK.out _ _ (HCl.out _ HB2.out) ?_
  clear hK K
  try simp only [Act.put, List.setIfInBounds_toArray, List.set_cons_zero, List.set_cons_succ]
  refine segw_go ?_
  simp only [opsOf, List.take_succ_cons, List.take_zero, List.drop_succ_cons, List.drop_zero, List.cons_append, List.nil_append, List.append_nil]
  refine hwk_nil ?_
  refine segk_want rfl (by rfl) (fun K hK => ?_)
  replace hK := Lib.hid hK
  go_simp
  go_at_call 10
  have hcon := size_call z.k z.s z.n z.op _ _ _ _ z.ns z.a z.b z.c w2 HZx.out HNs.out.2.2.1 HNs.out.2.2.2.1
  rw [HS2.out] at hcon
  refine hcon.mono ?_
  clear hcon
  rintro e w3 ⟨rfl, hb3⟩
  have HB3 := Lib.hid (blwS HB2.out hb3 (HK.out _ HB2.out).2)
  clear hb3
  refine hK.out _ _ (HCl.out _ HB3.out) ?_
  clear hK K
  try simp only [Act.put, List.setIfInBounds_toArray, List.set_cons_zero, List.set_cons_succ]
  refine segw_go ?_
  simp only [opsOf, List.take_succ_cons, List.take_zero, List.drop_succ_cons, List.drop_zero, List.cons_append, List.nil_append, List.append_nil]
  refine hwk_nil ?_
  refine segk_want rfl (by rfl) (fun K hK => ?_)
  replace hK := Lib.hid hK
  go_simp
  go_at_call 10
  have hcon := size_call k s nn op _ _ _ _ ns a b c w3 (HK.out _ HB3.out).1 (by have := HNs.out.1; omega) (by have := HNs.out.2.2.2.2; rw [bytes_parts]; unfold bytesE at this; omega)
  rw [HS1.out] at hcon
  refine hcon.mono ?_
  clear hcon
  rintro e w4 ⟨rfl, hb4⟩
  have HB4 := Lib.hid (blwS HB3.out hb4 (HK.out _ HB3.out).2)
  clear hb4
  refine hK.out _ _ (HCl.out _ HB4.out) ?_
  clear hK K
  try simp only [Act.put, List.setIfInBounds_toArray, List.set_cons_zero, List.set_cons_succ]
  refine segw_go ?_
  simp only [opsOf, List.take_succ_cons, List.take_zero, List.drop_succ_cons, List.drop_zero, List.cons_append, List.nil_append, List.append_nil]
  refine hwk_want (v := ?_) (by rfl) ?_ ?_
  rotate_left 1
  · intro w' hSw
    try dsimp only at hSw
    go_simp
    all_goals (with_reducible rfl)
  try simp only [Act.put, List.setIfInBounds_toArray, List.set_cons_zero, List.set_cons_succ]
  refine hwk_want (v := ?_) (by rfl) ?_ ?_
  rotate_left 1
  · intro w' hSw
    try dsimp only at hSw
    go_simp
    all_goals (with_reducible rfl)
  try simp only [Act.put, List.setIfInBounds_toArray, List.set_cons_zero, List.set_cons_succ]
  refine hwk_want (v := ?_) (by rfl) ?_ ?_
  rotate_left 1
  · intro w' hSw
    try dsimp only at hSw
    go_simp
    all_goals (with_reducible rfl)
  try simp only [Act.put, List.setIfInBounds_toArray, List.set_cons_zero, List.set_cons_succ]
  refine hwk_want (v := ?_) (by rfl) ?_ ?_
  rotate_left 1
  · intro w' hSw
    try dsimp only at hSw
    go_simp
    all_goals (with_reducible rfl)
  try simp only [Act.put, List.setIfInBounds_toArray, List.set_cons_zero, List.set_cons_succ]
  refine hwk_nil ?_
  refine segk_want rfl (by rfl) (fun K hK => ?_)
  replace hK := Lib.hid hK
  go_simp
  go_at_call 6
  refine (HA _).mono ?_
  rintro e w5 ⟨rfl, hb5⟩
  have HB5 := Lib.hid (blwS HB4.out hb5 (HK.out _ HB4.out).2)
  clear hb5
  refine hK.out _ _ (HCl.out _ HB5.out) ?_
  clear hK K
  try simp only [Act.put, List.setIfInBounds_toArray, List.set_cons_zero, List.set_cons_succ]
  refine segw_end ?_
  simp only [opsOf, List.take_succ_cons, List.take_zero, List.drop_succ_cons, List.drop_zero, List.cons_append, List.nil_append, List.append_nil]
  refine hwk_want (v := ?_) (by rfl) ?_ ?_
  rotate_left 1
  · intro w' hSw
    try dsimp only at hSw
    go_simp
    all_goals (with_reducible rfl)
  try simp only [Act.put, List.setIfInBounds_toArray, List.set_cons_zero, List.set_cons_succ]
  refine hwk_want (v := ?_) (by rfl) ?_ ?_
  rotate_left 1
  · intro w' hSw
    try dsimp only at hSw
    go_simp
    all_goals (with_reducible rfl)
  try simp only [Act.put, List.setIfInBounds_toArray, List.set_cons_zero, List.set_cons_succ]
  refine hwk_nil ?_
  exact HH.out _ _ _ _ _ _ _ _ _ _ _ _ _ _ _ _ _ _ _ _ _ _ _ _ _ _ _ _ _ _ _ _ _ _ _ _ _ _ _ w5 HB5.out

set_option maxHeartbeats 4000000 in
set_option maxRecDepth 100000 in
theorem free_end_off (HCp : ∀ (M rb ybk yof : Nat) (x : List UInt8) (y : By) (YB n : Nat), costE y.ns y.a y.b y.c ≤ 1048576 → (parts y.a y.b y.c).count ≤ 131072 → CopyC M rb ybk yof x y YB true n) (HA : AwakeC)
    (k : Int) (s : List UInt8) (nn op : Int) (an : Option Addr) (cn : Nat) (aa : Option Addr) (ca : Nat) (ab : Option Addr) (cb : Nat) (ac : Option Addr) (cc : Nat) (ns : List (List UInt8)) (a b c : Fx) (x : List UInt8) (w wr : World) (m : Nat) (q : Bool)
    (hv : ExV (Old w.heap.size) w (.slice an ns.length cn) (.slice aa a.len ca) (.slice ab b.len cb) (.slice ac c.len cc) ns a b c) (hbel : Below (w.heap.size + 1) (w.alloc (exBox k s nn op (.slice an ns.length cn) (.slice aa a.len ca) (.slice ab b.len cb) (.slice ac c.len cc))) wr)
    (hcnt : 1 + (parts a b c).count < 20000) (hce : costE ns a b c ≤ 1048576) (hby : bytesE ns a b c ≤ 1000000000) (hr : rightB k s nn op ns a b c = true) (hm : (usesE x k s ns a b c).1 = m) (hpos : m = 0)
    {Q : Exit → Act → World → Prop} (hQ : ∀ c a d v w, Q (.panic c) (a.put d v) w → Q (.panic c) a w) (u0 u3 u4 u7 u9 u11 u12 u13 u14 u15 u16 u17 u18 u19 u20 u21 u22 u23 u24 u25 u26 u27 u28 u29 u30 u31 u32 u33 u34 u35 u36 u37 u38 u39 u40 u41 u42 u43 u44 u45 u46 u47 u48 u49 u50 u51 u52 u53 u54 u55 u56 u57 u58 u59 u60 u61 u62 u63 u64 u65 u66 u67 u68 u69 u70 u71 u72 u73 u74 u75 u76 u77 u78 u79 u80 u81 u82 u83 u84 u85 u86 u87 u88 u89 u90 u91 : Value)
    (H : ∀ (x53 x54 x55 x56 x57 x58 x59 x60 x61 x62 x63 x64 x65 x66 x67 x68 x69 x70 x71 x72 x73 x74 x75 x76 x77 x78 x79 x80 x81 x82 x83 x84 x85 x86 x87 x88 x89 x90 x91 : Value) (wE : World), Below (w.heap.size + 1) (w.alloc (exBox k s nn op (.slice an ns.length cn) (.slice aa a.len ca) (.slice ab b.len cb) (.slice ac c.len cc))) wE → Q .normal ⟨#[u0, .string (bt x), .pointer (some ⟨w.heap.size, 0, none⟩), u3, .bool true, .int .i64 m, .bool false, u7, .bool false, u9, .int .i64 0, u11, u12, u13, u14, u15, u16, u17, u18, u19, u20, u21, u22, u23, u24, u25, u26, u27, u28, u29, u30, u31, u32, u33, u34, u35, u36, u37, u38, u39, u40, u41, u42, u43, u44, u45, u46, u47, u48, u49, u50, u51, u52, x53, x54, x55, x56, x57, x58, x59, x60, x61, x62, x63, x64, x65, x66, x67, x68, x69, x70, x71, x72, x73, x74, x75, x76, x77, x78, x79, x80, x81, x82, x83, x84, x85, x86, x87, x88, x89, x90, x91], []⟩ wE) :
    lwR11.wp Tryz.prog Q ⟨#[u0, .string (bt x), .pointer (some ⟨w.heap.size, 0, none⟩), u3, u4, .int .i64 m, .bool false, u7, .bool false, u9, .int .i64 0, u11, u12, u13, u14, u15, u16, u17, u18, u19, u20, u21, u22, u23, u24, u25, u26, u27, u28, u29, u30, u31, u32, u33, u34, u35, u36, u37, u38, u39, u40, u41, u42, u43, u44, u45, u46, u47, u48, u49, u50, u51, u52, u53, u54, u55, u56, u57, u58, u59, u60, u61, u62, u63, u64, u65, u66, u67, u68, u69, u70, u71, u72, u73, u74, u75, u76, u77, u78, u79, u80, u81, u82, u83, u84, u85, u86, u87, u88, u89, u90, u91], []⟩ wr := by
  have HK := Lib.hid (show ∀ W, Below (w.heap.size + 1) (w.alloc (exBox k s nn op (.slice an ns.length cn) (.slice aa a.len ca) (.slice ab b.len cb) (.slice ac c.len cc))) W → ExV (Old W.heap.size) W (.slice an ns.length cn) (.slice aa a.len ca) (.slice ab b.len cb) (.slice ac c.len cc) ns a b c ∧ w.heap.size + 1 ≤ W.heap.size from
    fun W h => ⟨hv.keep (keep_up (below_old h) (Nat.le_refl _)), by have := h.size; simp at this; omega⟩)
  have HCl := Lib.hid (show ∀ W, Below (w.heap.size + 1) (w.alloc (exBox k s nn op (.slice an ns.length cn) (.slice aa a.len ca) (.slice ab b.len cb) (.slice ac c.len cc))) W → (fun w' : World => w'.cell? ⟨w.heap.size, 0, none⟩ = some (.int .i64 k) ∧ w'.cell? ⟨w.heap.size, 1, none⟩ = some (.string (bt s)) ∧ w'.cell? ⟨w.heap.size, 2, none⟩ = some (.int .i64 nn) ∧ w'.cell? ⟨w.heap.size, 3, none⟩ = some (.int .i64 op) ∧ w'.cell? ⟨w.heap.size, 4, none⟩ = some (.slice an ns.length cn) ∧ w'.cell? ⟨w.heap.size, 5, none⟩ = some (.slice aa a.len ca) ∧ w'.cell? ⟨w.heap.size, 6, none⟩ = some (.slice ab b.len cb) ∧ w'.cell? ⟨w.heap.size, 7, none⟩ = some (.slice ac c.len cc)) W from fun W h => exBox_cell (Nat.lt_succ_self _) h)
  have HB0 := Lib.hid (show Below (w.heap.size + 1) (w.alloc (exBox k s nn op (.slice an ns.length cn) (.slice aa a.len ca) (.slice ab b.len cb) (.slice ac c.len cc))) wr.drew from ⟨hbel.os, hbel.tape, hbel.output, hbel.size, hbel.block⟩)
  have HBr := Lib.hid hbel
  have hsw : w.heap.size + 1 ≤ wr.heap.size := by have := hbel.size; simp at this; omega
  have HH := Lib.hid H
  have hml : m ≤ 1 + (parts a b c).count := by have := usesE_le x k s ns a b c; rw [parts_count]; omega
  obtain ⟨z, hz⟩ : ∃ z, repE x byApp true k s nn op ns a b c = z := ⟨_, rfl⟩
  obtain ⟨hz1, hz2, _, _⟩ := rep_one x byApp 2 (byApp_ok x) hr hz.symm
  have hzb := repE_bytes x byApp 408 byApp_le.2.1 hz.symm
  rw [hm] at hz2
  have hzc : (parts z.a z.b z.c).count + 1 ≤ 131072 := by omega
  have hzy : ownBytes z.ns z.b z.c + bytesF (parts z.a z.b z.c) ≤ 2147483647 := by
    rw [bytes_parts]
    unfold bytesE at hzb hby
    omega
  have hwA : IntKind.i64.wrap (2 * (m : Int)) = 2 * m := by rw [IntKind.wrap_i64]; omega
  obtain ⟨sz1, hs1⟩ : ∃ v : Int, (((parts a b c).count : Nat) : Int) + 1 = v := ⟨_, rfl⟩
  obtain ⟨sz2, hs2⟩ : ∃ v : Int, (((parts z.a z.b z.c).count : Nat) : Int) + 1 = v := ⟨_, rfl⟩
  have hwB : IntKind.i64.wrap (sz1 + 2 * (m : Int)) = sz2 := by rw [IntKind.wrap_i64]; omega
  have HS1 := Lib.hid hs1
  have HS2 := Lib.hid hs2
  have HZ := Lib.hid hz
  have HRy := Lib.hid (show ownBytes ns b c + bytesF (parts a b c) + (ownBytes byApp.ns byApp.b byApp.c + bytesF (parts byApp.a byApp.b byApp.c)) * (1 + (parts a b c).count) ≤ 2147483647 from by
    have h1 : ownBytes byApp.ns byApp.b byApp.c + bytesF (parts byApp.a byApp.b byApp.c) ≤ 408 := by have := byApp_le.2.1; rw [bytes_parts]; exact this
    have h2 : (ownBytes byApp.ns byApp.b byApp.c + bytesF (parts byApp.a byApp.b byApp.c)) * (1 + (parts a b c).count) ≤ 408 * (1 + (parts a b c).count) := Nat.mul_le_mul_right _ h1
    rw [bytes_parts]
    unfold bytesE at hby
    omega)
  have HNs := Lib.hid (And.intro hcnt (And.intro hce (And.intro hzc (And.intro hzy hby))))
  have HCp := Lib.hid HCp
  have hmz : (0 : Int) ≤ m := by omega
  have d1 : decide ((m : Int) ≥ 0) = true := decide_eq_true hmz
  have d2 : decide ((0 : Int) ≤ m) = true := decide_eq_true hmz
  have d3 : decide ((m : Int) > 0) = false := by exact decide_eq_false (by omega)
  have d4 : decide ((0 : Int) < m) = false := by exact decide_eq_false (by omega)
  have d5 : decide (0 < m) = false := by exact decide_eq_false (by omega)
  clear hv hbel H hz hz1 hz2 hzb hs1 hs2 hcnt hce hby hr hm hzc hzy hpos
  conv => arg 2; whnf
  refine region_seg (fun w' : World => w'.cell? ⟨w.heap.size, 0, none⟩ = some (.int .i64 k) ∧ w'.cell? ⟨w.heap.size, 1, none⟩ = some (.string (bt s)) ∧ w'.cell? ⟨w.heap.size, 2, none⟩ = some (.int .i64 nn) ∧ w'.cell? ⟨w.heap.size, 3, none⟩ = some (.int .i64 op) ∧ w'.cell? ⟨w.heap.size, 4, none⟩ = some (.slice an ns.length cn) ∧ w'.cell? ⟨w.heap.size, 5, none⟩ = some (.slice aa a.len ca) ∧ w'.cell? ⟨w.heap.size, 6, none⟩ = some (.slice ab b.len cb) ∧ w'.cell? ⟨w.heap.size, 7, none⟩ = some (.slice ac c.len cc)) [([(0, 25), (29, 1), (31, 2)], 25), ([(26, 1)], 27), ([], 28), ([], 30), ([(33, 4)], 37)] [(38, 2)] (by kernel_rfl) (by kernel_rfl) hQ (HCl.out _ HB0.out) ?_
  refine segw_go ?_
  simp only [opsOf, List.take_succ_cons, List.take_zero, List.drop_succ_cons, List.drop_zero, List.cons_append, List.nil_append, List.append_nil]
  refine hwk_want (v := ?_) (by rfl) ?_ ?_
  rotate_left 1
  · intro w' hSw
    try dsimp only at hSw
    go_simp
    all_goals (with_reducible rfl)
  try simp only [Act.put, List.setIfInBounds_toArray, List.set_cons_zero, List.set_cons_succ]
  refine hwk_want (v := ?_) (by rfl) ?_ ?_
  rotate_left 1
  · intro w' hSw
    try dsimp only at hSw
    go_simp
    all_goals (with_reducible rfl)
  try simp only [Act.put, List.setIfInBounds_toArray, List.set_cons_zero, List.set_cons_succ]
  refine hwk_want (v := ?_) (by rfl) ?_ ?_
  rotate_left 1
  · intro w' hSw
    try dsimp only at hSw
    go_simp
    all_goals (with_reducible rfl)
  try simp only [Act.put, List.setIfInBounds_toArray, List.set_cons_zero, List.set_cons_succ]
  refine hwk_want (v := ?_) (by rfl) ?_ ?_
  rotate_left 1
  · intro w' hSw
    try dsimp only at hSw
    go_simp
    all_goals (with_reducible rfl)
  try simp only [Act.put, List.setIfInBounds_toArray, List.set_cons_zero, List.set_cons_succ]
  refine hwk_want (v := ?_) (by rfl) ?_ ?_
  rotate_left 1
  · intro w' hSw
    try dsimp only at hSw
    go_simp
    all_goals (with_reducible rfl)
  try simp only [Act.put, List.setIfInBounds_toArray, List.set_cons_zero, List.set_cons_succ]
  refine hwk_want (v := ?_) (by rfl) ?_ ?_
  rotate_left 1
  · intro w' hSw
    try dsimp only at hSw
    go_simp
    all_goals (with_reducible rfl)
  try simp only [Act.put, List.setIfInBounds_toArray, List.set_cons_zero, List.set_cons_succ]
  refine hwk_want (v := ?_) (by rfl) ?_ ?_
  rotate_left 1
  · intro w' hSw
    try dsimp only at hSw
    go_simp
    all_goals (with_reducible rfl)
  try simp only [Act.put, List.setIfInBounds_toArray, List.set_cons_zero, List.set_cons_succ]
  refine hwk_want (v := ?_) (by rfl) ?_ ?_
  rotate_left 1
  · intro w' hSw
    try dsimp only at hSw
    go_simp
    all_goals (with_reducible rfl)
  try simp only [Act.put, List.setIfInBounds_toArray, List.set_cons_zero, List.set_cons_succ]
  refine hwk_want (v := ?_) (by rfl) ?_ ?_
  rotate_left 1
  · intro w' hSw
    try dsimp only at hSw
    go_simp
    all_goals (with_reducible rfl)
  try simp only [Act.put, List.setIfInBounds_toArray, List.set_cons_zero, List.set_cons_succ]
  refine hwk_want (v := ?_) (by rfl) ?_ ?_
  rotate_left 1
  · intro w' hSw
    try dsimp only at hSw
    go_simp
    all_goals (with_reducible rfl)
  try simp only [Act.put, List.setIfInBounds_toArray, List.set_cons_zero, List.set_cons_succ]
  refine hwk_want (v := ?_) (by rfl) ?_ ?_
  rotate_left 1
  · intro w' hSw
    try dsimp only at hSw
    go_simp
    all_goals (with_reducible rfl)
  try simp only [Act.put, List.setIfInBounds_toArray, List.set_cons_zero, List.set_cons_succ]
  refine hwk_want (v := ?_) (by rfl) ?_ ?_
  rotate_left 1
  · intro w' hSw
    try dsimp only at hSw
    go_simp
    all_goals (with_reducible rfl)
  try simp only [Act.put, List.setIfInBounds_toArray, List.set_cons_zero, List.set_cons_succ]
  refine hwk_want (v := ?_) (by rfl) ?_ ?_
  rotate_left 1
  · intro w' hSw
    try dsimp only at hSw
    go_simp
    all_goals (with_reducible rfl)
  try simp only [Act.put, List.setIfInBounds_toArray, List.set_cons_zero, List.set_cons_succ]
  refine hwk_want (v := ?_) (by rfl) ?_ ?_
  rotate_left 1
  · intro w' hSw
    try dsimp only at hSw
    go_simp
    all_goals (with_reducible rfl)
  try simp only [Act.put, List.setIfInBounds_toArray, List.set_cons_zero, List.set_cons_succ]
  refine hwk_want (v := ?_) (by rfl) ?_ ?_
  rotate_left 1
  · intro w' hSw
    try dsimp only at hSw
    go_simp
    all_goals (with_reducible rfl)
  try simp only [Act.put, List.setIfInBounds_toArray, List.set_cons_zero, List.set_cons_succ]
  refine hwk_want (v := ?_) (by rfl) ?_ ?_
  rotate_left 1
  · intro w' hSw
    try dsimp only at hSw
    go_simp
    all_goals (with_reducible rfl)
  try simp only [Act.put, List.setIfInBounds_toArray, List.set_cons_zero, List.set_cons_succ]
  refine hwk_want (v := ?_) (by rfl) ?_ ?_
  rotate_left 1
  · intro w' hSw
    try dsimp only at hSw
    go_simp
    all_goals (with_reducible rfl)
  try simp only [Act.put, List.setIfInBounds_toArray, List.set_cons_zero, List.set_cons_succ]
  refine hwk_want (v := ?_) (by rfl) ?_ ?_
  rotate_left 1
  · intro w' hSw
    try dsimp only at hSw
    go_simp
    all_goals (with_reducible rfl)
  try simp only [Act.put, List.setIfInBounds_toArray, List.set_cons_zero, List.set_cons_succ]
  refine hwk_want (v := ?_) (by rfl) ?_ ?_
  rotate_left 1
  · intro w' hSw
    try dsimp only at hSw
    go_simp
    all_goals (with_reducible rfl)
  try simp only [Act.put, List.setIfInBounds_toArray, List.set_cons_zero, List.set_cons_succ]
  refine hwk_want (v := ?_) (by rfl) ?_ ?_
  rotate_left 1
  · intro w' hSw
    try dsimp only at hSw
    go_simp
    all_goals (with_reducible rfl)
  try simp only [Act.put, List.setIfInBounds_toArray, List.set_cons_zero, List.set_cons_succ]
  refine hwk_want (v := ?_) (by rfl) ?_ ?_
  rotate_left 1
  · intro w' hSw
    try dsimp only at hSw
    go_simp
    all_goals (with_reducible rfl)
  try simp only [Act.put, List.setIfInBounds_toArray, List.set_cons_zero, List.set_cons_succ]
  refine hwk_want (v := ?_) (by rfl) ?_ ?_
  rotate_left 1
  · intro w' hSw
    try dsimp only at hSw
    go_simp
    all_goals (with_reducible rfl)
  try simp only [Act.put, List.setIfInBounds_toArray, List.set_cons_zero, List.set_cons_succ]
  refine hwk_want (v := ?_) (by rfl) ?_ ?_
  rotate_left 1
  · intro w' hSw
    try dsimp only at hSw
    go_simp
    all_goals (with_reducible rfl)
  try simp only [Act.put, List.setIfInBounds_toArray, List.set_cons_zero, List.set_cons_succ]
  refine hwk_want (v := ?_) (by rfl) ?_ ?_
  rotate_left 1
  · intro w' hSw
    try dsimp only at hSw
    go_simp
    all_goals (with_reducible rfl)
  try simp only [Act.put, List.setIfInBounds_toArray, List.set_cons_zero, List.set_cons_succ]
  refine hwk_want (v := ?_) (by rfl) ?_ ?_
  rotate_left 1
  · intro w' hSw
    try dsimp only at hSw
    go_simp
    all_goals (with_reducible rfl)
  try simp only [Act.put, List.setIfInBounds_toArray, List.set_cons_zero, List.set_cons_succ]
  refine hwk_want (v := ?_) (by rfl) ?_ ?_
  rotate_left 1
  · intro w' hSw
    try dsimp only at hSw
    go_simp
    all_goals (with_reducible rfl)
  try simp only [Act.put, List.setIfInBounds_toArray, List.set_cons_zero, List.set_cons_succ]
  refine hwk_want (v := ?_) (by rfl) ?_ ?_
  rotate_left 1
  · intro w' hSw
    try dsimp only at hSw
    go_simp
    all_goals (with_reducible rfl)
  try simp only [Act.put, List.setIfInBounds_toArray, List.set_cons_zero, List.set_cons_succ]
  refine hwk_want (v := ?_) (by rfl) ?_ ?_
  rotate_left 1
  · intro w' hSw
    try dsimp only at hSw
    go_simp
    all_goals (with_reducible rfl)
  try simp only [Act.put, List.setIfInBounds_toArray, List.set_cons_zero, List.set_cons_succ]
  refine hwk_nil ?_
  refine segk_want rfl (by rfl) (fun K hK => ?_)
  replace hK := Lib.hid hK
  go_simp
  generalize hw1 : World.drew (World.alloc wr _) = w1
  have hb1 : Below (w.heap.size + 1) (w.alloc (exBox k s nn op (.slice an ns.length cn) (.slice aa a.len ca) (.slice ab b.len cb) (.slice ac c.len cc))) w1 := by rw [← hw1]; exact below_same (HBr.out.alloc hsw _) rfl rfl rfl rfl
  have hrow : w1.heap[wr.heap.size]? = some (.cells #[.int .i64 2, .string ⟨#[]⟩, .int .i64 0, .int .i64 0, .slice none 0 0, .slice none 0 0, .slice none 0 0, .slice none 0 0, .int .i64 2, .string ⟨#[]⟩, .int .i64 0, .int .i64 0, .slice none 0 0, .slice none 0 0, .slice none 0 0, .slice none 0 0] 27 (0, 0)) := by
    rw [← hw1]; exact World.alloc_heap_new wr _
  have hsz1 : w1.heap.size = wr.heap.size + 1 := by rw [← hw1]; show (wr.alloc _).heap.size = _; simp
  clear hw1
  have HB1 := Lib.hid hb1
  have HRow := Lib.hid (And.intro hrow hsz1)
  clear hb1 hrow hsz1
  refine hK.out _ _ (HCl.out _ HB1.out) ?_
  clear hK K
  try simp only [Act.put, List.setIfInBounds_toArray, List.set_cons_zero, List.set_cons_succ]
  refine segw_go ?_
  simp only [opsOf, List.take_succ_cons, List.take_zero, List.drop_succ_cons, List.drop_zero, List.cons_append, List.nil_append, List.append_nil]
  refine hwk_want (v := ?_) (by rfl) ?_ ?_
  rotate_left 1
  · intro w' hSw
    try dsimp only at hSw
    go_simp
    all_goals (with_reducible rfl)
  try simp only [Act.put, List.setIfInBounds_toArray, List.set_cons_zero, List.set_cons_succ]
  refine hwk_nil ?_
  refine segk_want rfl (by rfl) (fun K hK => ?_)
  replace hK := Lib.hid hK
  go_simp
  go_at_call 9
  have hyE : ExV (Old w1.heap.size) w1 (.slice none 0 0) (.slice (some ⟨wr.heap.size, 0, none⟩) 2 2) (.slice none 0 0) (.slice none 0 0) byApp.ns byApp.a byApp.b byApp.c := by
    have hr1 := HRow.out.1
    have z0 : NsV (Old w1.heap.size) w1 (.slice none 0 0) [] := .inl ⟨rfl, _, _, rfl⟩
    have zf : ∀ m, FxV (Old w1.heap.size) w1 m (.slice none 0 0) .nil := fun m => .inl ⟨rfl, _, _, rfl⟩
    refine ⟨z0, .inr ⟨by simp [byApp], wr.heap.size, 0, 2, rfl, by show wr.heap.size < w1.heap.size; have := HRow.out.2; omega, by decide, by decide, ?_⟩, zf 1, zf 4⟩
    refine fxAt_cons.2 ⟨rfl, cell_of hr1 0 _ rfl, cell_of hr1 1 _ rfl, cell_of hr1 2 _ rfl, cell_of hr1 3 _ rfl, ⟨_, _, _, _, cell_of hr1 4 _ rfl, cell_of hr1 5 _ rfl, cell_of hr1 6 _ rfl, cell_of hr1 7 _ rfl, z0, zf 0, zf 1, zf 4⟩, ?_⟩
    exact fxAt_cons.2 ⟨rfl, cell_of hr1 8 _ rfl, cell_of hr1 9 _ rfl, cell_of hr1 10 _ rfl, cell_of hr1 11 _ rfl, ⟨_, _, _, _, cell_of hr1 12 _ rfl, cell_of hr1 13 _ rfl, cell_of hr1 14 _ rfl, cell_of hr1 15 _ rfl, z0, zf 0, zf 1, zf 4⟩, trivial⟩
  have hcon := replace_call HCp.out x k s nn op _ _ _ _ ns a b c byApp _ _ _ _ w1 (HK.out _ HB1.out).1 hyE (by have := HNs.out.1; omega) HNs.out.2.1 (by decide) (by decide) HRy.out
  rw [HZ.out] at hcon
  refine hcon.mono ?_
  clear hcon hyE
  rintro e w2 ⟨vn2, va2, vb2, vc2, rfl, hzx, hb2⟩
  have HB2 := Lib.hid (blwS HB1.out hb2 (HK.out _ HB1.out).2)
  have HZx := Lib.hid hzx
  clear hb2 hzx
  refine hK.out _ _ (HCl.out _ HB2.out) ?_
  clear hK K
  try simp only [Act.put, List.setIfInBounds_toArray, List.set_cons_zero, List.set_cons_succ]
  refine segw_go ?_
  simp only [opsOf, List.take_succ_cons, List.take_zero, List.drop_succ_cons, List.drop_zero, List.cons_append, List.nil_append, List.append_nil]
  refine hwk_nil ?_
  refine segk_want rfl (by rfl) (fun K hK => ?_)
  replace hK := Lib.hid hK
  go_simp
  go_at_call 10
  have hcon := size_call z.k z.s z.n z.op _ _ _ _ z.ns z.a z.b z.c w2 HZx.out HNs.out.2.2.1 HNs.out.2.2.2.1
  rw [HS2.out] at hcon
  refine hcon.mono ?_
  clear hcon
  rintro e w3 ⟨rfl, hb3⟩
  have HB3 := Lib.hid (blwS HB2.out hb3 (HK.out _ HB2.out).2)
  clear hb3
  refine hK.out _ _ (HCl.out _ HB3.out) ?_
  clear hK K
  try simp only [Act.put, List.setIfInBounds_toArray, List.set_cons_zero, List.set_cons_succ]
  refine segw_go ?_
  simp only [opsOf, List.take_succ_cons, List.take_zero, List.drop_succ_cons, List.drop_zero, List.cons_append, List.nil_append, List.append_nil]
  refine hwk_nil ?_
  refine segk_want rfl (by rfl) (fun K hK => ?_)
  replace hK := Lib.hid hK
  go_simp
  go_at_call 10
  have hcon := size_call k s nn op _ _ _ _ ns a b c w3 (HK.out _ HB3.out).1 (by have := HNs.out.1; omega) (by have := HNs.out.2.2.2.2; rw [bytes_parts]; unfold bytesE at this; omega)
  rw [HS1.out] at hcon
  refine hcon.mono ?_
  clear hcon
  rintro e w4 ⟨rfl, hb4⟩
  have HB4 := Lib.hid (blwS HB3.out hb4 (HK.out _ HB3.out).2)
  clear hb4
  refine hK.out _ _ (HCl.out _ HB4.out) ?_
  clear hK K
  try simp only [Act.put, List.setIfInBounds_toArray, List.set_cons_zero, List.set_cons_succ]
  refine segw_go ?_
  simp only [opsOf, List.take_succ_cons, List.take_zero, List.drop_succ_cons, List.drop_zero, List.cons_append, List.nil_append, List.append_nil]
  refine hwk_want (v := ?_) (by rfl) ?_ ?_
  rotate_left 1
  · intro w' hSw
    try dsimp only at hSw
    go_simp
    all_goals (with_reducible rfl)
  try simp only [Act.put, List.setIfInBounds_toArray, List.set_cons_zero, List.set_cons_succ]
  refine hwk_want (v := ?_) (by rfl) ?_ ?_
  rotate_left 1
  · intro w' hSw
    try dsimp only at hSw
    go_simp
    all_goals (with_reducible rfl)
  try simp only [Act.put, List.setIfInBounds_toArray, List.set_cons_zero, List.set_cons_succ]
  refine hwk_want (v := ?_) (by rfl) ?_ ?_
  rotate_left 1
  · intro w' hSw
    try dsimp only at hSw
    go_simp
    all_goals (with_reducible rfl)
  try simp only [Act.put, List.setIfInBounds_toArray, List.set_cons_zero, List.set_cons_succ]
  refine hwk_want (v := ?_) (by rfl) ?_ ?_
  rotate_left 1
  · intro w' hSw
    try dsimp only at hSw
    go_simp
    all_goals (with_reducible rfl)
  try simp only [Act.put, List.setIfInBounds_toArray, List.set_cons_zero, List.set_cons_succ]
  refine hwk_nil ?_
  refine segk_want rfl (by rfl) (fun K hK => ?_)
  replace hK := Lib.hid hK
  go_simp
  go_at_call 6
  refine (HA _).mono ?_
  rintro e w5 ⟨rfl, hb5⟩
  have HB5 := Lib.hid (blwS HB4.out hb5 (HK.out _ HB4.out).2)
  clear hb5
  refine hK.out _ _ (HCl.out _ HB5.out) ?_
  clear hK K
  try simp only [Act.put, List.setIfInBounds_toArray, List.set_cons_zero, List.set_cons_succ]
  refine segw_end ?_
  simp only [opsOf, List.take_succ_cons, List.take_zero, List.drop_succ_cons, List.drop_zero, List.cons_append, List.nil_append, List.append_nil]
  refine hwk_want (v := ?_) (by rfl) ?_ ?_
  rotate_left 1
  · intro w' hSw
    try dsimp only at hSw
    go_simp
    all_goals (with_reducible rfl)
  try simp only [Act.put, List.setIfInBounds_toArray, List.set_cons_zero, List.set_cons_succ]
  refine hwk_want (v := ?_) (by rfl) ?_ ?_
  rotate_left 1
  · intro w' hSw
    try dsimp only at hSw
    go_simp
    all_goals (with_reducible rfl)
  try simp only [Act.put, List.setIfInBounds_toArray, List.set_cons_zero, List.set_cons_succ]
  refine hwk_nil ?_
  exact HH.out _ _ _ _ _ _ _ _ _ _ _ _ _ _ _ _ _ _ _ _ _ _ _ _ _ _ _ _ _ _ _ _ _ _ _ _ _ _ _ w5 HB5.out
end Go.Proofs.YtfcogjlojfcfkaaGreat
