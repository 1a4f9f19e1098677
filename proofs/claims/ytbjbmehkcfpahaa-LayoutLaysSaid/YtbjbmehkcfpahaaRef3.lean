/- Contracts of the reference's reader: remark and text, over a reader that lies whole in a block of its own. The text has at most 16384 bytes. -/
import Derived.Test.YtbjbmehkcfpahaaRef2
namespace Go.Proofs.Ytbjbmehkcfpahaa
open Go.RowKit Lx
attribute [local go_sem] bt_size bt_get bt_list bt_toList bt_drop bt_take bt_extract

theorem two_open {l : List UInt8} {j : Nat} (h : j + 1 < l.length) : ((l.drop j).take 2 == [123, 45]) = openB (l.drop j) := by
  rw [List.drop_eq_getElem_cons (by omega), List.drop_eq_getElem_cons (by omega)]
  simp only [List.take_succ_cons, List.take_zero, openB, List.isPrefixOf]
  rw [Bool.eq_iff_iff]
  simp
  constructor
  · rintro ⟨a, b⟩; exact ⟨a.symm, b.symm⟩
  · rintro ⟨a, b⟩; exact ⟨a.symm, b.symm⟩
theorem two_close {l : List UInt8} {j : Nat} (h : j + 1 < l.length) : ((l.drop j).take 2 == [45, 125]) = closeB (l.drop j) := by
  rw [List.drop_eq_getElem_cons (by omega), List.drop_eq_getElem_cons (by omega)]
  simp only [List.take_succ_cons, List.take_zero, closeB, List.isPrefixOf]
  rw [Bool.eq_iff_iff]
  simp
  constructor
  · rintro ⟨a, b⟩; exact ⟨a.symm, b.symm⟩
  · rintro ⟨a, b⟩; exact ⟨a.symm, b.symm⟩

theorem blk_short {f : Nat} {d : Int} {l : List UInt8} (hd : 1 ≤ d) (hl : l.length ≤ 1) : blkL f d l = none := by
  cases f with
  | zero => rfl
  | succ f =>
    match l, hl with
    | [], _ => rfl
    | [c], _ =>
      rw [blkL]
      have ho : openB [c] = false := by simp [openB, List.isPrefixOf]
      have hc : closeB [c] = false := by simp [closeB, List.isPrefixOf]
      rw [ho, hc]
      simp only [Bool.false_eq_true, if_false]
      rw [if_neg (by omega)]
      cases f <;> rfl

theorem blk_open1 {f : Nat} {d : Int} {l : List UInt8} {k : Nat} (hk : k < l.length) (h : openB (l.drop k) = true) : blkL (f + 1) d (l.drop k) = if d + 1 = 0 then some 2 else (blkL f (d + 1) (l.drop (k + 2))).map (· + 2) := by
  rw [List.drop_eq_getElem_cons hk] at h ⊢
  rw [blkL, if_pos h, List.drop_drop]
theorem blk_close1 {f : Nat} {d : Int} {l : List UInt8} {k : Nat} (hk : k < l.length) (h0 : openB (l.drop k) = false) (h : closeB (l.drop k) = true) : blkL (f + 1) d (l.drop k) = if d - 1 = 0 then some 2 else (blkL f (d - 1) (l.drop (k + 2))).map (· + 2) := by
  rw [List.drop_eq_getElem_cons hk] at h h0 ⊢
  rw [blkL, if_neg (by rw [h0]; exact Bool.false_ne_true), if_pos h, List.drop_drop]
theorem blk_plain1 {f : Nat} {d : Int} {l : List UInt8} {k : Nat} (hk : k < l.length) (h0 : openB (l.drop k) = false) (h : closeB (l.drop k) = false) : blkL (f + 1) d (l.drop k) = if d = 0 then some 1 else (blkL f d (l.drop (k + 1))).map (· + 1) := by
  rw [List.drop_eq_getElem_cons hk] at h h0 ⊢
  rw [blkL, if_neg (by rw [h0]; exact Bool.false_ne_true), if_neg (by rw [h]; exact Bool.false_ne_true)]
theorem map_add2 (x : Option Nat) (a b c : Nat) (h : c = b + a) : (x.map (· + a)).map (· + b) = x.map (· + c) := by
  subst h
  cases x <;> simp
  omega

def remV (o : Option Nat) : Int := match o with | some n => (n : Int) | none => -1

def RemRel (l : List UInt8) (o : Nat) (R : Option Nat) (m i : Value) : Prop :=
  ∃ (j f : Nat) (d : Int), o ≤ j ∧ j ≤ l.length ∧ i = .int .i64 j ∧ m = .int .i64 d ∧ 0 ≤ d ∧ d ≤ j ∧ (j = o ∨ 1 ≤ d) ∧ l.length ≤ f + j ∧ R = (blkL f d (l.drop j)).map (· + (j - o))

set_option maxHeartbeats 800000 in
set_option maxRecDepth 100000 in
theorem refRemark_any (w : World) (g : Nat) (l : List UInt8) (o : Nat) (p : Nat × Nat) (hsrc : RdAt w g l o p) (hop : openB (l.drop o) = true) (ho : o < l.length) (hl : l.length ≤ 16384) :
    Calls Try.prog 20 #[.pointer (some ⟨g, 0, none⟩)] w fun e w' => e = .returned (.int .i64 (remV (blkL (l.drop o).length 0 (l.drop o)))) ∧ w = w' := by
  obtain ⟨c0, c1, c2, c3⟩ := rd_cells hsrc
  have HOp := Lib.hid hop
  clear hsrc c2 c3 hop
  have ho2 : o + 1 < l.length := by
    have := List.IsPrefix.length_le (List.isPrefixOf_iff_prefix.1 HOp.out)
    simp at this
    omega
  obtain ⟨R, hR⟩ : ∃ R, R = blkL (l.drop o).length 0 (l.drop o) := ⟨_, rfl⟩
  rw [← hR]
  have HR := Lib.hid hR
  clear hR
  go_enter Try.func20, Try.ntmps20
  go_wp2
  go_loop [3, 4] (fun m i => RemRel l o R m i) (fun _ i => l.length - (intOf i).toNat)
  case atStart => exact ⟨o, (l.drop o).length, 0, Nat.le_refl _, by omega, rfl, rfl, Int.le_refl _, by omega, .inl rfl, by simp; omega, by rw [HR.out]; simp⟩
  case round =>
    obtain ⟨j, f, d, hoj, hj, rfl, rfl, hd0, hdj, hjd, hf, hall⟩ := hrel
    have H := Lib.hid hall
    have HJ := Lib.hid hjd
    clear hall hjd
    by_cases hlt : j + 1 < l.length
    · obtain ⟨f, rfl⟩ : ∃ f', f = f' + 1 := ⟨f - 1, by omega⟩
      have hx : (bt l).extract j (j + 2) = bt ((l.drop j).take 2) := by
        rw [bt_extract]
        congr 2
        omega
      have t1 := two_open hlt
      have t2 := two_close hlt
      cases h1 : openB (l.drop j) with
      | true =>
        have hb := blk_open1 (f := f) (d := d) (by omega) h1
        rw [if_neg (by omega)] at hb
        have HB := Lib.hid hb
        rw [h1] at t1
        clear hb t2 h1
        go_wp2
        go_round
        case rel => exact ⟨j + 2, f, d + 1, by omega, by omega, by go_num, rfl, by omega, by omega, .inr (by omega), by omega, by rw [H.out, HB.out]; exact map_add2 _ _ _ _ (by omega)⟩
        case measure => simp [intOf]; omega
      | false =>
        have hd1 : 1 ≤ d := by
          rcases HJ.out with h | h
          · rw [h, HOp.out] at h1; cases h1
          · exact h
        rw [h1] at t1
        cases h2 : closeB (l.drop j) with
        | true =>
          have hb := blk_close1 (f := f) (d := d) (by omega) h1 h2
          rw [h2] at t2
          by_cases hz : d - 1 = 0
          · rw [if_pos hz] at hb
            have HB := Lib.hid hb
            have hz' : (d - 1 == 0) = true := by simp [hz]
            clear hb h1 h2 hz
            go_wp2
            go_ret
            refine ⟨?_, rfl⟩
            rw [H.out, HB.out]
            simp only [remV, Option.map_some]
            rw [show ((2 + (j - o) : Nat) : Int) = (j : Int) + 2 - (o : Int) from by omega]
            rfl
          · rw [if_neg hz] at hb
            have HB := Lib.hid hb
            have hz' : (d - 1 == 0) = false := by simp [hz]
            clear hb h1 h2
            go_wp2
            go_round
            case rel => exact ⟨j + 2, f, d - 1, by omega, by omega, by go_num, rfl, by omega, by omega, .inr (by omega), by omega, by rw [H.out, HB.out]; exact map_add2 _ _ _ _ (by omega)⟩
            case measure => simp [intOf]; omega
        | false =>
          have hb := blk_plain1 (f := f) (d := d) (by omega) h1 h2
          rw [if_neg (by omega)] at hb
          have HB := Lib.hid hb
          rw [h2] at t2
          clear hb h1 h2
          go_wp2
          go_round
          case rel => exact ⟨j + 1, f, d, by omega, by omega, by go_num, rfl, by omega, by omega, .inr (by omega), by omega, by rw [H.out, HB.out]; exact map_add2 _ _ _ _ (by omega)⟩
          case measure => simp [intOf]; omega
    · have hd1 : 1 ≤ d := by
        rcases HJ.out with h | h
        · omega
        · exact h
      go_wp2
      go_ret
      refine ⟨?_, rfl⟩
      rw [H.out, blk_short hd1 (by simp; omega)]
      rfl

theorem below_drewN' {B : Nat} {a w : World} (h : Below B a w) (n : Nat) : Below B a (w.drewN n) := ⟨h.os, h.tape, h.output, h.size, h.block⟩

/-- What text answers. -/
def txtR (o : Option (List UInt8 × Nat)) : Ending := match o with
  | some r => .returned (.tuple #[.string (bt r.1), .int .i64 ((r.2 + 1 : Nat) : Int)])
  | none => .returned (.tuple #[.string ⟨#[]⟩, .int .i64 (-1)])

def TxtRel (w : World) (g : Nat) (l : List UInt8) (o : Nat) (p : Nat × Nat) (R : Option (List UInt8 × Nat)) (m : Nat) (v i : Value) (wr : World) : Prop :=
  ∃ (k f : Nat) (bs : List UInt8), o + 1 ≤ k ∧ k ≤ l.length ∧ i = .int .i64 k ∧ bs.length ≤ k ∧ l.length ≤ f + k ∧ wr.ownsRow w.heap.size 5 1 v bs.length (Lib.byteCells bs) ∧
    Below w.heap.size w wr ∧ RdAt wr g l o p ∧ R = ((litL f (l.drop k)).map fun r => (bs ++ r.1, r.2 + (k - (o + 1)))) ∧ l.length - k < m

theorem lit_step1 {f : Nat} {l : List UInt8} {k : Nat} (h : k < l.length) (hq : l[k] ≠ 34) (hn : (charL (l.drop k)).2 ≠ 0) (bs : List UInt8) (c c' : Nat) (hc : c' = c + (charL (l.drop k)).2) :
    ((litL (f + 1) (l.drop k)).map fun r => (bs ++ r.1, r.2 + c)) = (litL f (l.drop (k + (charL (l.drop k)).2))).map fun r => ((bs ++ [(charL (l.drop k)).1]) ++ r.1, r.2 + c') := by
  have hd := List.drop_eq_getElem_cons h
  rw [← List.drop_drop]
  generalize l.drop k = m at *
  subst hd
  subst hc
  rw [litL, if_neg hq, if_neg hn, Option.map_map]
  congr 1
  funext r
  simp
  omega

/-- The number that digits are, cut at 1000. -/
def capV : Int → List UInt8 → Int
  | n, [] => n
  | n, c :: r => capV (min (10 * n + ((c.toNat : Int) - 48)) 1000) r

theorem capV_big : ∀ (ds : List UInt8) (n : Int), ds.all digB = true → 255 < n → n ≤ 1000 → 255 < capV n ds
  | [], n, _, h, _ => h
  | c :: r, n, hd, h, h' => by
    simp only [List.all_cons, Bool.and_eq_true] at hd
    obtain ⟨d1, d2, _⟩ := dig_of c hd.1
    rw [capV]
    exact capV_big r _ hd.2 (by omega) (by omega)

theorem capV_val : ∀ (ds : List UInt8) (n : Int), ds.all digB = true → 0 ≤ n → n ≤ 255 → valL 255 n ds = if 255 < capV n ds then none else some (capV n ds)
  | [], n, _, h, h' => by rw [capV, valL, if_neg (by omega)]
  | c :: r, n, hd, h, h' => by
    simp only [List.all_cons, Bool.and_eq_true] at hd
    obtain ⟨d1, d2, d3⟩ := dig_of c hd.1
    rw [capV, valL, d3]
    by_cases hb : (255 - ((c.toNat : Int) - 48)) / 10 < n
    · rw [if_pos hb]
      have : 255 < capV (min (10 * n + ((c.toNat : Int) - 48)) 1000) r := capV_big r _ hd.2 (by omega) (by omega)
      rw [if_pos this]
    · rw [if_neg hb]
      have e : min (10 * n + ((c.toNat : Int) - 48)) 1000 = n * 10 + ((c.toNat : Int) - 48) := by omega
      rw [e]
      exact capV_val r _ hd.2 (by omega) (by omega)

theorem capV_bd : ∀ (ds : List UInt8) (n : Int), ds.all digB = true → 0 ≤ n → n ≤ 1000 → 0 ≤ capV n ds ∧ capV n ds ≤ 1000
  | [], n, _, h, h' => ⟨h, h'⟩
  | c :: r, n, hd, h, h' => by
    simp only [List.all_cons, Bool.and_eq_true] at hd
    obtain ⟨d1, d2, _⟩ := dig_of c hd.1
    rw [capV]
    exact capV_bd r _ hd.2 (by omega) (by omega)

theorem capV_snoc : ∀ (ds : List UInt8) (n : Int) (c : UInt8), capV n (ds ++ [c]) = min (10 * capV n ds + ((c.toNat : Int) - 48)) 1000
  | [], n, c => rfl
  | d :: r, n, c => by
    rw [List.cons_append, capV, capV]
    exact capV_snoc r _ c

/-- The escape of a number. -/
theorem esc_num {l : List UInt8} {k : Nat} (h : k < l.length) (h92 : l[k] = 92) (ds : List UInt8) (hds : ds = (l.drop (k + 1)).takeWhile digB) (hne : ds ≠ []) :
    charL (l.drop k) = if 255 < capV 0 ds then (0, 0) else ((capV 0 ds).toNat.toUInt8, 1 + ds.length) := by
  have hall : ds.all digB = true := by rw [hds]; exact all_takeWhile _ _
  rw [List.drop_eq_getElem_cons h, charL_cons, if_pos h92]
  unfold escL
  simp only [List.drop_succ_cons, List.drop_zero]
  rw [← hds, if_neg hne, capV_val ds 0 hall (by omega) (by omega)]
  by_cases hb : 255 < capV 0 ds
  · rw [if_pos hb, if_pos hb]
  · rw [if_neg hb, if_neg hb]

theorem esc_oth {l : List UInt8} {k : Nat} (h : k + 1 < l.length) (h92 : l[k] = 92) (hd : digB l[k + 1] = false) :
    charL (l.drop k) = if l[k + 1] = 110 then (10, 2) else if l[k + 1] = 116 then (9, 2) else if l[k + 1] = 92 ∨ l[k + 1] = 34 then (l[k + 1], 2) else (0, 0) := by
  rw [List.drop_eq_getElem_cons (by omega), List.drop_eq_getElem_cons h, charL_cons, if_pos h92]
  unfold escL
  simp only [List.drop_succ_cons, List.drop_zero]
  rw [if_pos (by simp only [List.takeWhile_cons, hd]; rfl)]

theorem esc_end {l : List UInt8} {k : Nat} (h : k + 1 = l.length) (h92 : l[k] = 92) : charL (l.drop k) = (0, 0) := by
  rw [List.drop_eq_getElem_cons (by omega), List.drop_of_length_le (by omega), charL_cons, if_pos h92]
  rfl

theorem char_pl {l : List UInt8} {k : Nat} (h : k < l.length) (h92 : l[k] ≠ 92) : charL (l.drop k) = if l[k] < 32 ∨ 126 < l[k] then (0, 0) else (l[k], 1) := by
  rw [List.drop_eq_getElem_cons h, charL_cons, if_neg h92]

theorem txt_append {w wr w1 : World} {v v' : Value} {o : Obj} {bs : List UInt8} {b : UInt8} {g : Nat} {l : List UInt8} {oo : Nat} {p : Nat × Nat} (hgw : g < w.heap.size) (hg : (wr.alloc o).grownBy w1 v.ownBlock) (hown' : w1.ownsRow w.heap.size 5 1 v' (bs.length + 1) (Lib.byteCells bs ++ [.int .u8 (b.toNat : Int)]))
    (hown : wr.ownsRow w.heap.size 5 1 v bs.length (Lib.byteCells bs)) (hb : Below w.heap.size w wr) (hr : RdAt wr g l oo p) :
    w1.ownsRow w.heap.size 5 1 v' (bs ++ [b]).length (Lib.byteCells (bs ++ [b])) ∧ Below w.heap.size w w1 ∧ RdAt w1 g l oo p := by
  have hz := hb.size
  have hbl : ∀ i, i < w.heap.size → w1.heap[i]? = wr.heap[i]? := fun i hi => by
    rw [hg.block i (by simp; omega) (fun e => by have := (hown.lt i e.symm).1; omega)]
    exact Below.heap_alloc wr o i (by omega)
  refine ⟨by rw [Lib.byteCells_append, List.length_append]; exact hown', ?_, (hbl g hgw).trans hr⟩
  have h1 := hb.alloc hz o
  exact ⟨hg.os.trans h1.os, hg.tape.trans h1.tape, hg.output.trans h1.output, Nat.le_trans h1.size hg.size, fun i hi => (hbl i hi).trans (hb.block i hi)⟩

/-- At the head of each round of text's loop over an escape's digits. -/
def NumRel (_l : List UInt8) (k : Nat) (ds : List UInt8) (i n : Value) : Prop := ∃ j : Nat, j ≤ ds.length ∧ i = .int .i64 ((k + 1 + j : Nat) : Int) ∧ n = .int .i64 (capV 0 (ds.take j))

theorem all_take {ds : List UInt8} (h : ds.all digB = true) {j : Nat} : (ds.take j).all digB = true := by
  rw [List.all_eq_true] at h ⊢
  exact fun x hx => h x (List.mem_of_mem_take hx)

theorem tw_getElem (p : UInt8 → Bool) : ∀ (m : List UInt8) (j : Nat) (h : j < (m.takeWhile p).length), (m.takeWhile p)[j] = m[j]'(Nat.lt_of_lt_of_le h (takeWhile_len p m))
  | [], j, h => by simp at h
  | c :: m, j, h => by
    by_cases hc : p c = true
    · have e := tw_cons hc m
      simp only [e] at h ⊢
      match j, h with
      | 0, _ => rfl
      | j + 1, h => exact tw_getElem p m j (by simpa using h)
    · simp [hc] at h

theorem tw_stop (p : UInt8 → Bool) : ∀ m : List UInt8, (m.takeWhile p).length < m.length → p (m[(m.takeWhile p).length]?.getD 0) = false
  | [], h => by simp at h
  | c :: m, h => by
    cases hc : p c with
    | true =>
      rw [tw_cons hc] at h ⊢
      simp only [List.length_cons, List.getElem?_cons_succ]
      exact tw_stop p m (by simpa using h)
    | false => simp [hc]

theorem oneU8 (n : Int) : ∀ u ∈ [Value.int .u8 n], u.oneCell' = true := by
  intro u hu
  simp at hu
  subst hu
  rfl
theorem cellU8 (W : World) (n : Int) (T : TypeId) : ∀ j u, [Value.int .u8 n][j]? = some u → (W.alloc (.cells #[.int .u8 n] T)).cell? ((⟨W.heap.size, 0, none⟩ : Addr).add j) = some u := by
  intro j u hj
  match j, hj with
  | 0, hj => simp at hj; subst hj; simp [Addr.add]

theorem txt_next {w w1 : World} {g : Nat} {l : List UInt8} {o : Nat} {p : Nat × Nat} {R : Option (List UInt8 × Nat)} {m : Nat} {v : Value} {a f : Nat} {bs : List UInt8} (h1 : o + 1 ≤ a) (h2 : a ≤ l.length) (h3 : bs.length ≤ a) (h5 : l.length ≤ f + a)
    (h6 : w1.ownsRow w.heap.size 5 1 v bs.length (Lib.byteCells bs)) (h7 : Below w.heap.size w w1) (h8 : RdAt w1 g l o p) (h9 : R = ((litL f (l.drop a)).map fun r => (bs ++ r.1, r.2 + (a - (o + 1))))) (h10 : l.length - a < m) :
    TxtRel w g l o p R m v (.int .i64 (a : Int)) w1 := ⟨a, f, bs, h1, h2, rfl, h3, h5, h6, h7, h8, h9, h10⟩

set_option maxHeartbeats 2000000 in
set_option maxRecDepth 100000 in
theorem refText_any (w : World) (g : Nat) (l : List UInt8) (o : Nat) (p : Nat × Nat) (hsrc : RdAt w g l o p) (ho : o < l.length) (hl : l.length ≤ 16384) :
    Calls Try.prog 30 #[.pointer (some ⟨g, 0, none⟩)] w fun e w' => e = txtR (litL (l.drop o).length (l.drop (o + 1))) ∧ Below w.heap.size w w' := by
  obtain ⟨i0, hi, hz0, hz1, hz2⟩ := info_parts Try.info8
  obtain ⟨c0, c1, c2, c3⟩ := rd_cells hsrc
  have hgw := rd_lt hsrc
  have HS := Lib.hid hsrc
  clear hsrc c2 c3
  obtain ⟨R, hR⟩ : ∃ R, R = litL (l.drop o).length (l.drop (o + 1)) := ⟨_, rfl⟩
  rw [← hR]
  have HR := Lib.hid hR
  clear hR
  go_enter Try.func30, Try.ntmps30
  go_wp2
  clear c0 c1
  go_loopg [4, 5] (l.length + 1) (fun m v i wr => TxtRel w g l o p R m v i wr)
  case atStart => exact ⟨o + 1, (l.drop o).length, [], Nat.le_refl _, by omega, by go_num, by simp, by simp; omega, World.ownsRow_nil _ _ _ _, Below.refl _ _, HS.out, by rw [HR.out]; simp, by omega⟩
  case round =>
    obtain ⟨k, f, bs, hk1, hk, rfl, hbl, hf, hown, hbe, hsr, hall, hmm⟩ := hrel
    obtain ⟨c0, c1, c2, c3⟩ := rd_cells hsr
    have hzr := hbe.size
    have H := Lib.hid hall
    have HO := Lib.hid hown
    have HB := Lib.hid hbe
    have HSr := Lib.hid hsr
    have HMM := Lib.hid hmm
    clear hall hown hbe hsr hmm HS c2 c3
    by_cases hlt : k < l.length
    · obtain ⟨f, rfl⟩ : ∃ f', f = f' + 1 := ⟨f - 1, by omega⟩
      by_cases hq : l[k] = 34
      · have gq : ((l[k].toNat : Int) == 34) = true := by rw [hq]; rfl
        have hx : R = some (bs, k - o) := by
          rw [H.out, lit_end hlt hq]
          simp
          omega
        have HX := Lib.hid hx
        have hconv : ∀ nq, (convert 83 9 u4).run Try.prog (wr.drewN nq) = .ok (.string (bt bs)) (wr.drewN nq) := fun nq => conv_own (w := wr.drewN nq) HO.out
        clear hq hx
        go_wp2
        have s1 : IntKind.i64.wrap ((k : Int) + 1) = (k : Int) + 1 := IntWalk.i64_in _ (by omega)
        have s2 : IntKind.i64.wrap ((k : Int) + 1 - (o : Int)) = (k : Int) + 1 - (o : Int) := IntWalk.i64_in _ (by omega)
        go_quiet (fail)
        clear s1 s2
        go_wp2
        go_ret2
        refine ⟨?_, below_drewN' HB.out _⟩
        rw [HX.out]
        simp only [txtR]
        rw [show ((k - o + 1 : Nat) : Int) = (k : Int) + 1 - (o : Int) from by omega]
        rfl
      · have gq : ((l[k].toNat : Int) == 34) = false := byte_ne hq
        have HQ := Lib.hid hq
        clear hq
        by_cases h92 : l[k] = 92
        · have g92 : ((l[k].toNat : Int) != 92) = false := by rw [h92]; rfl
          have H92 := Lib.hid h92
          clear h92
          by_cases hk2 : k + 1 < l.length
          · cases hdg : digB l[k + 1] with
            | true =>
              obtain ⟨ds, hds⟩ : ∃ ds, ds = (l.drop (k + 1)).takeWhile digB := ⟨_, rfl⟩
              have hne : ds ≠ [] := by rw [hds, List.drop_eq_getElem_cons hk2, tw_cons hdg]; exact List.cons_ne_nil _ _
              have hdl : k + 1 + ds.length ≤ l.length := by
                rw [hds]
                have := takeWhile_len digB (l.drop (k + 1))
                simp at this
                omega
              have hda : ds.all digB = true := by rw [hds]; exact all_takeWhile _ _
              have hch := esc_num hlt H92.out ds hds hne
              have HDs := Lib.hid hds
              have HCh := Lib.hid hch
              have HDa := Lib.hid hda
              have HNe := Lib.hid hne
              clear hds hch hda hne
              go_wp2_with fail
              refine (refDigit_any _ _).mono ?_
              rintro e w' ⟨rfl, rfl⟩
              rw [hdg]
              clear hdg
              go_wp2
              go_loop [5, 7] (fun i n => NumRel l k ds i n) (fun i _ => l.length - (intOf i).toNat)
              case atStart => exact ⟨0, Nat.zero_le _, by go_num, rfl⟩
              case round =>
                obtain ⟨j, hj, rfl, rfl⟩ := hrel
                have hjl : k + 1 + j ≤ l.length := by omega
                obtain ⟨a, ha⟩ : ∃ a, a = k + 1 + j := ⟨_, rfl⟩
                rw [← ha]
                have hcb := capV_bd (ds.take j) 0 (all_take HDa.out) (by omega) (by omega)
                obtain ⟨cb1, cb2⟩ := hcb
                by_cases hjd : j < ds.length
                · have hal : a < l.length := by omega
                  have hdj : l[a] = ds[j] := by
                    subst ha
                    have := tw_getElem digB (l.drop (k + 1)) j (by rw [← HDs.out]; exact hjd)
                    simp only [← HDs.out, List.getElem_drop] at this
                    exact this.symm
                  have hdt : digB l[a] = true := by rw [hdj]; exact List.all_eq_true.1 HDa.out _ (List.getElem_mem hjd)
                  obtain ⟨d1, d2, d3⟩ := dig_of _ hdt
                  have hcs := capV_snoc (ds.take j) 0 l[a]
                  rw [hdj, ← List.take_succ_eq_append_getElem hjd, ← hdj] at hcs
                  have HCS := Lib.hid hcs
                  have HAa := Lib.hid ha
                  clear hcs ha d3 hdj
                  generalize capV 0 (ds.take j) = cv at *
                  go_wp2_with fail
                  refine (refDigit_any _ _).mono ?_
                  rintro e w' ⟨rfl, rfl⟩
                  rw [hdt]
                  clear hdt
                  go_wp2
                  go_round
                  case rel => exact ⟨j + 1, by omega, by have := HAa.out; go_num, by rw [HCS.out]⟩
                  case measure => have := HAa.out; simp [intOf]; omega
                · have hje : j = ds.length := by omega
                  have htk : ds.take j = ds := List.take_of_length_le (by omega)
                  rw [htk] at cb1 cb2 ⊢
                  have hstop : a < l.length → digB (l[a]?.getD 0) = false := fun h => by
                    subst ha
                    subst hje
                    have := tw_stop digB (l.drop (k + 1)) (by rw [← HDs.out]; simp; omega)
                    rw [← HDs.out] at this
                    simpa [h] using this
                  have HAa := Lib.hid ha
                  have HSt := Lib.hid hstop
                  clear ha htk hstop hje
                  by_cases hbig : 255 < capV 0 ds
                  · have hx : R = none := by rw [H.out, lit_bad hlt HQ.out (by rw [HCh.out, if_pos hbig])]; rfl
                    have HX := Lib.hid hx
                    clear hx
                    generalize capV 0 ds = cv at *
                    by_cases hal : a < l.length
                    · have hdf : digB l[a] = false := by have := HSt.out hal; simpa [hal] using this
                      go_wp2_with fail
                      refine (refDigit_any _ _).mono ?_
                      rintro e w' ⟨rfl, rfl⟩
                      rw [hdf]
                      clear hdf
                      go_wp2
                      go_ret2
                      exact ⟨by rw [HX.out]; rfl, HB.out⟩
                    · go_wp2
                      go_ret2
                      exact ⟨by rw [HX.out]; rfl, HB.out⟩
                  · have hch := HCh.out
                    rw [if_neg hbig] at hch
                    obtain ⟨b, hb⟩ : ∃ b : UInt8, b = (capV 0 ds).toNat.toUInt8 := ⟨_, rfl⟩
                    have hbn : capV 0 ds = (b.toNat : Int) := by rw [hb]; simp; omega
                    rw [← hb] at hch
                    have hst := lit_step1 (f := f) hlt HQ.out (by rw [hch]; simp) bs (k - (o + 1)) (a - (o + 1)) (by rw [hch]; have := HAa.out; simp; omega)
                    rw [hch] at hst
                    have HSt2 := Lib.hid hst
                    clear hst hch hb
                    rw [hbn] at hbig cb1 cb2 ⊢
                    clear hbn
                    by_cases hal : a < l.length
                    · have hdf : digB l[a] = false := by have := HSt.out hal; simpa [hal] using this
                      go_wp2_with fail
                      refine (refDigit_any _ _).mono ?_
                      rintro e w' ⟨rfl, rfl⟩
                      rw [hdf]
                      clear hdf
                      go_wp2_with (at_builtin; refine wpList_append_own _ rfl _ _ 83 rfl w.heap.size 5 i0 (.int .u8 0) 1 1 Try.under8s hi hz0 hz1 hz2 rfl (by decide) _ _ _ rfl (HO.out.alloc _) ⟨wr.heap.size, 0, none⟩ 1 1 [.int .u8 (b.toNat : Int)] rfl rfl (cellU8 _ _ _) (oneU8 _) (by unfold maxLen; omega) (by omega) (by first | omega | (simp; omega)) ?_; intro v' w1 hown' hgrow _)
                      have T := Lib.hid (txt_append hgw hgrow hown' HO.out HB.out HSr.out)
                      clear hown' hgrow c0 c1
                      go_wp2
                      go_roundg (l.length - k)
                      case measure => exact HMM.out
                      case rel => exact txt_next (f := f) (bs := bs ++ [b]) (by have := HAa.out; omega) (by have := HAa.out; omega) (by have := HAa.out; simp; omega) (by have := HAa.out; omega) T.out.1 T.out.2.1 T.out.2.2 (by rw [H.out, HSt2.out, show k + (1 + ds.length) = a from by have := HAa.out; omega]) (by have := HAa.out; omega)
                    · go_wp2_with (at_builtin; refine wpList_append_own _ rfl _ _ 83 rfl w.heap.size 5 i0 (.int .u8 0) 1 1 Try.under8s hi hz0 hz1 hz2 rfl (by decide) _ _ _ rfl (HO.out.alloc _) ⟨wr.heap.size, 0, none⟩ 1 1 [.int .u8 (b.toNat : Int)] rfl rfl (cellU8 _ _ _) (oneU8 _) (by unfold maxLen; omega) (by omega) (by first | omega | (simp; omega)) ?_; intro v' w1 hown' hgrow _)
                      have T := Lib.hid (txt_append hgw hgrow hown' HO.out HB.out HSr.out)
                      clear hown' hgrow c0 c1
                      go_wp2
                      go_roundg (l.length - k)
                      case measure => exact HMM.out
                      case rel => exact txt_next (f := f) (bs := bs ++ [b]) (by have := HAa.out; omega) (by have := HAa.out; omega) (by have := HAa.out; simp; omega) (by have := HAa.out; omega) T.out.1 T.out.2.1 T.out.2.2 (by rw [H.out, HSt2.out, show k + (1 + ds.length) = a from by have := HAa.out; omega]) (by have := HAa.out; omega)
            | false =>
              have hch := esc_oth hk2 H92.out hdg
              cases hhas : hasB [110, 116, 92, 34] l[k + 1] with
              | false =>
                have h4 := hhas
                simp [hasB] at h4
                rw [if_neg h4.1, if_neg h4.2.1, if_neg (by simp [h4.2.2])] at hch
                have hx : R = none := by rw [H.out, lit_bad hlt HQ.out (by rw [hch])]; rfl
                have HX := Lib.hid hx
                clear hx hch h4
                go_wp2_with fail
                refine (refDigit_any _ _).mono ?_
                rintro e w' ⟨rfl, rfl⟩
                rw [hdg]
                go_wp2_with fail
                refine (refHas_any [110, 116, 92, 34] _ _ (by decide)).mono ?_
                rintro e w' ⟨rfl, rfl⟩
                rw [hhas]
                go_wp2
                go_ret2
                exact ⟨by rw [HX.out]; rfl, HB.out⟩
              | true =>
                by_cases e1 : l[k + 1] = 110
                · rw [if_pos e1] at hch
                  have g1 : ((l[k + 1].toNat : Int) == 110) = true := by rw [e1]; rfl
                  clear e1
                  have hst := lit_step1 (f := f) hlt HQ.out (by rw [hch]; simp) bs (k - (o + 1)) (k + 2 - (o + 1)) (by rw [hch]; simp; omega)
                  rw [hch] at hst
                  have HSt2 := Lib.hid hst
                  clear hst hch
                  go_wp2_with fail
                  refine (refDigit_any _ _).mono ?_
                  rintro e w' ⟨rfl, rfl⟩
                  rw [hdg]
                  go_wp2_with fail
                  refine (refHas_any [110, 116, 92, 34] _ _ (by decide)).mono ?_
                  rintro e w' ⟨rfl, rfl⟩
                  rw [hhas]
                  go_wp2_with (at_builtin; refine wpList_append_own _ rfl _ _ 83 rfl w.heap.size 5 i0 (.int .u8 0) 1 1 Try.under8s hi hz0 hz1 hz2 rfl (by decide) _ _ _ rfl (HO.out.alloc _) ⟨wr.heap.size, 0, none⟩ 1 1 [.int .u8 10] rfl rfl (cellU8 _ _ _) (oneU8 _) (by unfold maxLen; omega) (by omega) (by first | omega | (simp; omega)) ?_; intro v' w1 hown' hgrow _)
                  have T := Lib.hid (txt_append (b := 10) hgw hgrow hown' HO.out HB.out HSr.out)
                  clear hown' hgrow c0 c1
                  go_wp2
                  go_roundg (l.length - k)
                  case measure => exact HMM.out
                  case rel =>
                    rw [show ((k : Int) + 2) = ((k + 2 : Nat) : Int) from by omega]
                    exact txt_next (f := f) (bs := bs ++ [10]) (by omega) (by omega) (by simp; omega) (by omega) T.out.1 T.out.2.1 T.out.2.2 (by rw [H.out, HSt2.out]) (by omega)
                · rw [if_neg e1] at hch
                  have g1 : ((l[k + 1].toNat : Int) == 110) = false := byte_ne e1
                  clear e1
                  by_cases e2 : l[k + 1] = 116
                  · rw [if_pos e2] at hch
                    have g2 : ((l[k + 1].toNat : Int) == 116) = true := by rw [e2]; rfl
                    clear e2
                    have hst := lit_step1 (f := f) hlt HQ.out (by rw [hch]; simp) bs (k - (o + 1)) (k + 2 - (o + 1)) (by rw [hch]; simp; omega)
                    rw [hch] at hst
                    have HSt2 := Lib.hid hst
                    clear hst hch
                    go_wp2_with fail
                    refine (refDigit_any _ _).mono ?_
                    rintro e w' ⟨rfl, rfl⟩
                    rw [hdg]
                    go_wp2_with fail
                    refine (refHas_any [110, 116, 92, 34] _ _ (by decide)).mono ?_
                    rintro e w' ⟨rfl, rfl⟩
                    rw [hhas]
                    go_wp2_with (at_builtin; refine wpList_append_own _ rfl _ _ 83 rfl w.heap.size 5 i0 (.int .u8 0) 1 1 Try.under8s hi hz0 hz1 hz2 rfl (by decide) _ _ _ rfl (HO.out.alloc _) ⟨wr.heap.size, 0, none⟩ 1 1 [.int .u8 9] rfl rfl (cellU8 _ _ _) (oneU8 _) (by unfold maxLen; omega) (by omega) (by first | omega | (simp; omega)) ?_; intro v' w1 hown' hgrow _)
                    have T := Lib.hid (txt_append (b := 9) hgw hgrow hown' HO.out HB.out HSr.out)
                    clear hown' hgrow c0 c1
                    go_wp2
                    go_roundg (l.length - k)
                    case measure => exact HMM.out
                    case rel =>
                      rw [show ((k : Int) + 2) = ((k + 2 : Nat) : Int) from by omega]
                      exact txt_next (f := f) (bs := bs ++ [9]) (by omega) (by omega) (by simp; omega) (by omega) T.out.1 T.out.2.1 T.out.2.2 (by rw [H.out, HSt2.out]) (by omega)
                  · have h4 : l[k + 1] = 92 ∨ l[k + 1] = 34 := by
                      have h4 := hhas
                      simp [hasB, e2] at h4
                      rcases h4 with h | h | h
                      · rw [h] at g1; simp at g1
                      · exact .inl h
                      · exact .inr h
                    rw [if_neg e2, if_pos h4] at hch
                    have g2 : ((l[k + 1].toNat : Int) == 116) = false := byte_ne e2
                    clear e2 h4
                    have hst := lit_step1 (f := f) hlt HQ.out (by rw [hch]; simp) bs (k - (o + 1)) (k + 2 - (o + 1)) (by rw [hch]; simp; omega)
                    rw [hch] at hst
                    have HSt2 := Lib.hid hst
                    clear hst hch
                    go_wp2_with fail
                    refine (refDigit_any _ _).mono ?_
                    rintro e w' ⟨rfl, rfl⟩
                    rw [hdg]
                    go_wp2_with fail
                    refine (refHas_any [110, 116, 92, 34] _ _ (by decide)).mono ?_
                    rintro e w' ⟨rfl, rfl⟩
                    rw [hhas]
                    go_wp2_with (at_builtin; refine wpList_append_own _ rfl _ _ 83 rfl w.heap.size 5 i0 (.int .u8 0) 1 1 Try.under8s hi hz0 hz1 hz2 rfl (by decide) _ _ _ rfl (HO.out.alloc _) ⟨wr.heap.size, 0, none⟩ 1 1 [.int .u8 (l[k + 1].toNat : Int)] rfl rfl (cellU8 _ _ _) (oneU8 _) (by unfold maxLen; omega) (by omega) (by first | omega | (simp; omega)) ?_; intro v' w1 hown' hgrow _)
                    have T := Lib.hid (txt_append (b := l[k + 1]) hgw hgrow hown' HO.out HB.out HSr.out)
                    clear hown' hgrow c0 c1
                    go_wp2
                    go_roundg (l.length - k)
                    case measure => exact HMM.out
                    case rel =>
                      rw [show ((k : Int) + 2) = ((k + 2 : Nat) : Int) from by omega]
                      exact txt_next (f := f) (bs := bs ++ [l[k + 1]]) (by omega) (by omega) (by simp; omega) (by omega) T.out.1 T.out.2.1 T.out.2.2 (by rw [H.out, HSt2.out]) (by omega)
          · have hx : R = none := by rw [H.out, lit_bad hlt HQ.out (by rw [esc_end (by omega) H92.out])]; rfl
            have HX := Lib.hid hx
            clear hx
            go_wp2
            go_ret2
            exact ⟨by rw [HX.out]; rfl, HB.out⟩
        · have g92 : ((l[k].toNat : Int) != 92) = true := by
            have := byte_ne h92
            simpa using this
          have hch := char_pl hlt h92
          clear h92
          by_cases hbad : l[k] < 32 ∨ 126 < l[k]
          · rw [if_pos hbad] at hch
            have hx : R = none := by rw [H.out, lit_bad hlt HQ.out (by rw [hch])]; rfl
            have HX := Lib.hid hx
            have hb2 : (l[k].toNat : Int) < 32 ∨ (126 : Int) < (l[k].toNat : Int) := by
              simp [UInt8.lt_iff_toNat_lt] at hbad
              omega
            clear hx hch hbad
            rcases hb2 with h | h
            · go_wp2
              go_ret2
              exact ⟨by rw [HX.out]; rfl, HB.out⟩
            · have h3 : ¬ (l[k].toNat : Int) < 32 := by omega
              go_wp2
              go_ret2
              exact ⟨by rw [HX.out]; rfl, HB.out⟩
          · rw [if_neg hbad] at hch
            have hb2 : ¬ (l[k].toNat : Int) < 32 ∧ ¬ (126 : Int) < (l[k].toNat : Int) := by
              simp [UInt8.lt_iff_toNat_lt] at hbad
              omega
            obtain ⟨n1, n2⟩ := hb2
            have HCh := Lib.hid hch
            clear hch hbad
            go_wp2_with (at_builtin; refine wpList_append_own _ rfl _ _ 83 rfl w.heap.size 5 i0 (.int .u8 0) 1 1 Try.under8s hi hz0 hz1 hz2 rfl (by decide) _ _ _ rfl (HO.out.alloc _) ⟨wr.heap.size, 0, none⟩ 1 1 [.int .u8 (l[k].toNat : Int)] rfl rfl ?c1 ?c2 ?c3 ?c4 ?c5 ?_)
            case c2 => first | rfl | (intro u hu; simp at hu; subst hu; rfl)
            case c3 => unfold maxLen; omega
            case c4 => omega
            case c5 => first | omega | (simp; omega)
            intro v' w1 hown' hgrow _
            have T := Lib.hid (txt_append hgw hgrow hown' HO.out HB.out HSr.out)
            clear hown' hgrow c0 c1
            go_wp2
            go_roundg (l.length - k)
            case measure => exact HMM.out
            case rel =>
              have hst := lit_step1 (f := f) hlt HQ.out (by rw [HCh.out]; simp) bs (k - (o + 1)) (k + 1 - (o + 1)) (by rw [HCh.out]; simp; omega)
              rw [HCh.out] at hst
              exact ⟨k + 1, f, bs ++ [l[k]], by omega, by omega, by go_num, by simp; omega, by omega, T.out.1, T.out.2.1, T.out.2.2, by rw [H.out, hst], by omega⟩
    · have hx : R = none := by rw [H.out, lit_nil (by omega)]; rfl
      have HX := Lib.hid hx
      clear hx
      go_wp2
      go_ret2
      exact ⟨by rw [HX.out]; rfl, HB.out⟩
end Go.Proofs.Ytbjbmehkcfpahaa
