/- Contracts of the lexer's functions value, lineComment, blockComment, gap, escape and character: each leaves the world alone. No condition but lengths that every string keeps, and that value is handed digits. -/
import Derived.Test.YtbjbmehkcfpahaaStrs
namespace Go.Proofs.Ytbjbmehkcfpahaa
open Go.RowKit Lx
attribute [local go_sem] bt_size bt_get bt_list bt_toList bt_drop bt_take

def valR (o : Option Int) : Ending := .returned (.tuple #[.int .i64 (o.getD 0), .bool o.isSome])

theorem valL_drop (most n : Int) (ds : List UInt8) (k : Nat) (h : k < ds.length) :
    valL most n (ds.drop k) = if (most - ((ds[k] - 48).toNat : Int)) / 10 < n then none else valL most (n * 10 + ((ds[k] - 48).toNat : Int)) (ds.drop (k + 1)) := by
  rw [List.drop_eq_getElem_cons h, valL]

theorem dig_of (c : UInt8) (h : digB c = true) : 48 ≤ c.toNat ∧ c.toNat ≤ 57 ∧ ((c - 48).toNat : Int) = (c.toNat : Int) - 48 := by
  simp [digB, UInt8.le_iff_toNat_le] at h
  refine ⟨h.1, h.2, ?_⟩
  rw [UInt8.toNat_sub_of_le _ _ (by simp [UInt8.le_iff_toNat_le]; omega)]
  simp
  omega

set_option maxHeartbeats 400000 in
set_option maxRecDepth 100000 in
theorem value_any (ds : List UInt8) (most : Int) (w : World) (hs : ds.length ≤ maxLen) (hd : ds.all digB = true) (h1 : 255 ≤ most) (h2 : most ≤ 9223372036854775807) :
    Calls Try.prog 78 #[.string (bt ds), .int .i64 most] w fun e w' => e = valR (valL most 0 ds) ∧ w = w' := by
  unfold maxLen at hs
  have HD := Lib.hid hd
  clear hd
  go_enter Try.func78, Try.ntmps78
  go_wp2
  go_loop [6, 7] (fun m i => ∃ (k : Nat) (n : Int), k ≤ ds.length ∧ i = .int .i64 k ∧ m = .int .i64 n ∧ 0 ≤ n ∧ n ≤ most ∧ valL most 0 ds = valL most n (ds.drop k)) (fun _ i => ds.length - (intOf i).toNat)
  case atStart => exact ⟨0, 0, Nat.zero_le _, rfl, rfl, Int.le_refl _, by omega, rfl⟩
  case round =>
    obtain ⟨k, n, hk, rfl, rfl, hn0, hnm, hall⟩ := hrel
    have H := Lib.hid hall
    clear hall
    by_cases hlt : k < ds.length
    · have hdk : digB ds[k] = true := List.all_eq_true.1 HD.out _ (List.getElem_mem hlt)
      obtain ⟨d1, d2, d3⟩ := dig_of _ hdk
      have D3 := Lib.hid d3
      clear d3 hdk
      by_cases ht : (most - ((ds[k].toNat : Int) - 48)) / 10 < n
      · go_wp2
        go_ret2
        refine ⟨?_, rfl⟩
        rw [H.out, valL_drop most n ds k hlt, D3.out, if_pos ht]
        rfl
      · go_wp2
        go_round
        case rel => exact ⟨k + 1, n * 10 + ((ds[k].toNat : Int) - 48), by omega, by go_num, by go_num, by omega, by omega, by rw [H.out, valL_drop most n ds k hlt, D3.out, if_neg ht]⟩
        case measure => simp [intOf]; omega
    · go_wp2
      go_ret2
      refine ⟨?_, rfl⟩
      rw [H.out, List.drop_of_length_le (by omega)]
      rfl

theorem takeWhile_len (p : UInt8 → Bool) (l : List UInt8) : (l.takeWhile p).length ≤ l.length := (List.takeWhile_sublist p).length_le

theorem indexByte_nl : ∀ l : List UInt8, Lib.indexByte l 10 = if (l.takeWhile nlB).length = l.length then -1 else ((l.takeWhile nlB).length : Int)
  | [] => rfl
  | c :: l => by
    have ih := indexByte_nl l
    unfold Lib.indexByte
    by_cases h : c = 10
    · subst h; simp [nlB]
    · have hn : nlB c = true := by simp [nlB, h]
      have hl := takeWhile_len nlB l
      simp only [beq_iff_eq, h, if_false, List.takeWhile_cons, hn, if_true, List.length_cons]
      rw [ih]
      by_cases h1 : (List.takeWhile nlB l).length = l.length
      · simp [h1]
      · have h2 : ¬ ((List.takeWhile nlB l).length : Int) = -1 := by omega
        simp [h1, h2]

set_option maxHeartbeats 400000 in
set_option maxRecDepth 100000 in
theorem lineComment_any (l : List UInt8) (w : World) (hs : l.length ≤ maxLen) :
    Calls Try.prog 74 #[.string (bt l)] w fun e w' => e = .returned (.int .i64 (lineL l)) ∧ w = w' := by
  have hx := Lib.hid (indexByte_nl l)
  have h1 := takeWhile_len symB l
  have hs2 : (l.takeWhile symB).length ≤ maxLen := by omega
  have h2 := takeWhile_len nlB l
  go_enter Try.func74, Try.ntmps74
  go_wp2_with fail
  refine (prefix_any _ _ enters_isSymbol isSymbol_any _ _ hs).mono ?_
  rintro e w' ⟨rfl, rfl⟩
  by_cases hl2 : (l.takeWhile symB).length < 2
  · go_wp2
    go_ret
    refine ⟨?_, rfl⟩
    simp [lineL, hl2]
  · cases hdd : ((l.takeWhile symB).takeWhile dashB == l.takeWhile symB) with
    | false =>
      go_wp2_with fail
      refine (prefix_any _ _ enters_isDash isDash_any _ _ hs2).mono ?_
      rintro e w' ⟨rfl, rfl⟩
      go_wp2
      go_ret
      refine ⟨?_, rfl⟩
      rw [lineL, hdd]
      simp
    | true =>
      go_wp2_with fail
      refine (prefix_any _ _ enters_isDash isDash_any _ _ hs2).mono ?_
      rintro e w' ⟨rfl, rfl⟩
      have hL : lineL l = (l.takeWhile nlB).length := by rw [lineL, hdd]; simp [hl2]
      have HL := Lib.hid hL
      clear hL
      by_cases he : (l.takeWhile nlB).length = l.length
      · have hi : Lib.indexByte l 10 = -1 := by rw [hx.out, if_pos he]
        have HE := Lib.hid he
        clear he
        go_wp2_with (go_at_call 79; refine (indexByte_any _ 10 _).mono ?_; rintro e w' ⟨rfl, rfl⟩)
        go_ret
        refine ⟨?_, rfl⟩
        rw [HL.out, HE.out]
        rfl
      · have hi : Lib.indexByte l 10 = ((l.takeWhile nlB).length : Int) := by rw [hx.out, if_neg he]
        clear he
        go_wp2_with (go_at_call 79; refine (indexByte_any _ 10 _).mono ?_; rintro e w' ⟨rfl, rfl⟩)
        go_ret
        refine ⟨?_, rfl⟩
        rw [HL.out]
        rfl

def blkR (o : Option Nat) : Ending := .returned (.tuple #[.int .i64 ((o.getD 0 : Nat) : Int), .bool o.isSome])

theorem blk_open {f : Nat} {d : Int} {l : List UInt8} {k : Nat} (hk : k < l.length) (h : openB (l.drop k) = true) : k + 2 ≤ l.length ∧
    (blkL (f + 1) d (l.drop k)).map (· + k) = if d + 1 = 0 then some (k + 2) else (blkL f (d + 1) (l.drop (k + 2))).map (· + (k + 2)) := by
  have hl : k + 2 ≤ l.length := by
    have := List.IsPrefix.length_le (List.isPrefixOf_iff_prefix.1 h)
    simp at this
    omega
  refine ⟨hl, ?_⟩
  rw [List.drop_eq_getElem_cons hk] at h ⊢
  rw [blkL, if_pos h]
  split
  · simp; omega
  · rw [List.drop_drop, Option.map_map]
    congr 1
    funext x
    simp
    omega

theorem blk_close {f : Nat} {d : Int} {l : List UInt8} {k : Nat} (hk : k < l.length) (h0 : openB (l.drop k) = false) (h : closeB (l.drop k) = true) : k + 2 ≤ l.length ∧
    (blkL (f + 1) d (l.drop k)).map (· + k) = if d - 1 = 0 then some (k + 2) else (blkL f (d - 1) (l.drop (k + 2))).map (· + (k + 2)) := by
  have hl : k + 2 ≤ l.length := by
    have := List.IsPrefix.length_le (List.isPrefixOf_iff_prefix.1 h)
    simp at this
    omega
  refine ⟨hl, ?_⟩
  rw [List.drop_eq_getElem_cons hk] at h h0 ⊢
  rw [blkL, if_neg (by rw [h0]; exact Bool.false_ne_true), if_pos h]
  split
  · simp; omega
  · rw [List.drop_drop, Option.map_map]
    congr 1
    funext x
    simp
    omega

theorem blk_plain {f : Nat} {d : Int} {l : List UInt8} {k : Nat} (hk : k < l.length) (h0 : openB (l.drop k) = false) (h : closeB (l.drop k) = false) :
    (blkL (f + 1) d (l.drop k)).map (· + k) = if d = 0 then some (k + 1) else (blkL f d (l.drop (k + 1))).map (· + (k + 1)) := by
  rw [List.drop_eq_getElem_cons hk] at h h0 ⊢
  rw [blkL, if_neg (by rw [h0]; exact Bool.false_ne_true), if_neg (by rw [h]; exact Bool.false_ne_true)]
  split
  · simp; omega
  · rw [Option.map_map]
    congr 1
    funext x
    simp
    omega

set_option maxHeartbeats 400000 in
set_option maxRecDepth 100000 in
theorem blockComment_any (l : List UInt8) (w : World) (hs : l.length ≤ maxLen) :
    Calls Try.prog 73 #[.string (bt l)] w fun e w' => e = blkR (blkL l.length 0 l) ∧ w = w' := by
  unfold maxLen at hs
  go_enter Try.func73, Try.ntmps73
  go_wp2
  go_loop [4, 5] (fun m i => ∃ (k f : Nat) (d : Int), k ≤ l.length ∧ i = .int .i64 k ∧ m = .int .i64 d ∧ -(k : Int) ≤ d ∧ d ≤ k ∧ l.length ≤ f + k ∧ blkL l.length 0 l = (blkL f d (l.drop k)).map (· + k)) (fun _ i => l.length - (intOf i).toNat)
  case atStart => exact ⟨0, l.length, 0, Nat.zero_le _, rfl, rfl, by simp, by simp, by simp, by simp⟩
  case round =>
    obtain ⟨k, f, d, hk, rfl, rfl, hd1, hd2, hf, hall⟩ := hrel
    have H := Lib.hid hall
    clear hall
    by_cases hlt : k < l.length
    · obtain ⟨f, rfl⟩ : ∃ f', f = f' + 1 := ⟨f - 1, by omega⟩
      cases ho : openB (l.drop k) with
      | true =>
        obtain ⟨hk2, hb⟩ := blk_open (f := f) (d := d) hlt ho
        have HB := Lib.hid hb
        clear hb
        go_wp2_with fail
        refine (hasOpen_any _ _).mono ?_
        rintro e w' ⟨rfl, rfl⟩
        by_cases hz : d + 1 = 0
        · have hz' : (d + 1 == 0) = true := by simp [hz]
          have HZ := Lib.hid hz
          clear hz
          go_wp2
          go_ret2
          refine ⟨?_, rfl⟩
          rw [H.out, HB.out, if_pos HZ.out]
          rfl
        · have hz' : (d + 1 == 0) = false := by simp [hz]
          go_wp2
          go_round
          case rel => exact ⟨k + 2, f, d + 1, by omega, by go_num, rfl, by omega, by omega, by omega, by rw [H.out, HB.out, if_neg hz]⟩
          case measure => simp [intOf]; omega
      | false =>
        cases hc : closeB (l.drop k) with
        | true =>
          obtain ⟨hk2, hb⟩ := blk_close (f := f) (d := d) hlt ho hc
          have HB := Lib.hid hb
          clear hb
          go_wp2_with fail
          refine (hasOpen_any _ _).mono ?_
          rintro e w' ⟨rfl, rfl⟩
          go_wp2_with fail
          refine (hasClose_any _ _).mono ?_
          rintro e w' ⟨rfl, rfl⟩
          by_cases hz : d - 1 = 0
          · have hz' : (d - 1 == 0) = true := by simp [hz]
            have HZ := Lib.hid hz
            clear hz
            go_wp2
            go_ret2
            refine ⟨?_, rfl⟩
            rw [H.out, HB.out, if_pos HZ.out]
            rfl
          · have hz' : (d - 1 == 0) = false := by simp [hz]
            go_wp2
            go_round
            case rel => exact ⟨k + 2, f, d - 1, by omega, by go_num, rfl, by omega, by omega, by omega, by rw [H.out, HB.out, if_neg hz]⟩
            case measure => simp [intOf]; omega
        | false =>
          have hb := blk_plain (f := f) (d := d) hlt ho hc
          have HB := Lib.hid hb
          clear hb
          go_wp2_with fail
          refine (hasOpen_any _ _).mono ?_
          rintro e w' ⟨rfl, rfl⟩
          go_wp2_with fail
          refine (hasClose_any _ _).mono ?_
          rintro e w' ⟨rfl, rfl⟩
          by_cases hz : d = 0
          · have hz' : (d == 0) = true := by simp [hz]
            have HZ := Lib.hid hz
            clear hz
            go_wp2
            go_ret2
            refine ⟨?_, rfl⟩
            rw [H.out, HB.out, if_pos HZ.out]
            rfl
          · have hz' : (d == 0) = false := by simp [hz]
            go_wp2
            go_round
            case rel => exact ⟨k + 1, f, d, by omega, by go_num, rfl, by omega, by omega, by omega, by rw [H.out, HB.out, if_neg hz]⟩
            case measure => simp [intOf]; omega
    · go_wp2
      go_ret2
      refine ⟨?_, rfl⟩
      rw [H.out, List.drop_of_length_le (by omega)]
      cases f <;> rfl

def gapR (o : Option Nat) : Ending := .returned (.tuple #[.int .i64 ((o.getD 0 : Nat) : Int), .bool o.isSome])

set_option maxHeartbeats 400000 in
set_option maxRecDepth 100000 in
theorem gap_any (l : List UInt8) (w : World) (hs : l.length ≤ maxLen) :
    Calls Try.prog 42 #[.string (bt l)] w fun e w' => e = gapR (gapL l) ∧ w = w' := by
  go_enter Try.func42, Try.ntmps42
  go_wp2_with fail
  refine (prefix_any _ _ enters_isSpace isSpace_any _ _ hs).mono ?_
  rintro e w' ⟨rfl, rfl⟩
  by_cases he : l.takeWhile spaceB = []
  · have hg : gapL l = if openB l then blkL l.length 0 l else some (lineL l) := by unfold gapL; rw [if_pos (by rw [he]; rfl)]
    have HG := Lib.hid hg
    clear hg
    cases ho : openB l with
    | true =>
      go_wp2_with fail
      refine (hasOpen_any _ _).mono ?_
      rintro e w' ⟨rfl, rfl⟩
      go_wp2_with fail
      refine (blockComment_any _ _ hs).mono ?_
      rintro e w' ⟨rfl, rfl⟩
      unfold blkR
      go_wp2
      go_ret2
      refine ⟨?_, rfl⟩
      rw [HG.out, if_pos ho]
      rfl
    | false =>
      go_wp2_with fail
      refine (hasOpen_any _ _).mono ?_
      rintro e w' ⟨rfl, rfl⟩
      go_wp2_with fail
      refine (lineComment_any _ _ hs).mono ?_
      rintro e w' ⟨rfl, rfl⟩
      go_wp2
      go_ret2
      refine ⟨?_, rfl⟩
      rw [HG.out, if_neg (by rw [ho]; exact Bool.false_ne_true)]
      rfl
  · have hg : gapL l = some (l.takeWhile spaceB).length := by unfold gapL; rw [if_neg (by simpa using he)]
    have HG := Lib.hid hg
    clear hg
    have he' : (l.takeWhile spaceB).isEmpty = false := by simpa using he
    go_wp2
    go_ret2
    refine ⟨?_, rfl⟩
    rw [HG.out]
    rfl

def charR (r : UInt8 × Nat) : Ending := .returned (.tuple #[.int .u8 (r.1.toNat : Int), .int .i64 (r.2 : Int)])

theorem val255 : ∀ (ds : List UInt8) (n : Int), 0 ≤ n → n ≤ 255 → ∀ r, valL 255 n ds = some r → 0 ≤ r ∧ r ≤ 255
  | [], n, h0, h1, r, h => by simp [valL] at h; omega
  | c :: ds, n, h0, h1, r, h => by
    rw [valL] at h
    split at h
    · cases h
    · exact val255 ds _ (by omega) (by omega) r h

theorem all_takeWhile (p : UInt8 → Bool) : ∀ l : List UInt8, (l.takeWhile p).all p = true
  | [] => rfl
  | c :: l => by
    by_cases h : p c = true
    · simp only [List.takeWhile_cons, h, if_true, List.all_cons, all_takeWhile p l, Bool.and_self]
    · simp [h]

theorem byte_ne {a b : UInt8} (h : ¬ a = b) : ((a.toNat : Int) == (b.toNat : Int)) = false := by
  rw [beq_eq_false_iff_ne]
  intro e
  exact h (UInt8.toNat_inj.1 (by omega))

theorem charL_cons (c : UInt8) (l : List UInt8) : charL (c :: l) = if c = 92 then escL (c :: l) else if c < 32 ∨ 126 < c then (0, 0) else (c, 1) := rfl

set_option maxHeartbeats 400000 in
set_option maxRecDepth 100000 in
theorem escape_none (c0 : UInt8) (w : World) : Calls Try.prog 104 #[.string (bt [c0])] w fun e w' => e = charR (0, 0) ∧ w = w' := by
  have hb := bt_drop [c0] 1
  simp only [List.length_cons, List.length_nil, List.drop_succ_cons, List.drop_zero, Nat.zero_add] at hb
  go_enter Try.func104, Try.ntmps104
  go_wp2_with fail
  refine (prefix_any _ _ enters_isDigit isDigit_any _ _ (by simp)).mono ?_
  rintro e w' ⟨rfl, rfl⟩
  go_wp2
  go_ret2
  exact ⟨rfl, rfl⟩

set_option maxHeartbeats 400000 in
set_option maxRecDepth 100000 in
theorem escape_byte (c0 c : UInt8) (r : List UInt8) (w : World) (hs : r.length + 2 ≤ maxLen) (hc : digB c = false) :
    Calls Try.prog 104 #[.string (bt (c0 :: c :: r))] w fun e w' =>
      e = charR (if c = 110 then (10, 2) else if c = 116 then (9, 2) else if c = 92 ∨ c = 34 then (c, 2) else (0, 0)) ∧ w = w' := by
  have hb := bt_drop (c0 :: c :: r) 1
  simp only [List.length_cons, List.drop_succ_cons, List.drop_zero] at hb
  have he : (c :: r).takeWhile digB = [] := by simp [hc]
  have HE := Lib.hid he
  clear he hc
  have hs' : (c :: r).length ≤ maxLen := by simp; omega
  unfold maxLen at hs
  obtain ⟨X, hX⟩ : ∃ X : UInt8 × Nat, X = if c = 110 then (10, 2) else if c = 116 then (9, 2) else if c = 92 ∨ c = 34 then (c, 2) else (0, 0) := ⟨_, rfl⟩
  rw [← hX]
  have HX := Lib.hid hX
  clear hX
  by_cases h1 : c = 110
  · subst h1
    go_enter Try.func104, Try.ntmps104
    go_wp2_with fail
    refine (prefix_any _ _ enters_isDigit isDigit_any _ _ hs').mono ?_
    rintro e w' ⟨rfl, rfl⟩
    rw [HE.out]
    go_wp2
    go_ret2
    refine ⟨?_, rfl⟩
    rw [HX.out]
    rfl
  by_cases h2 : c = 116
  · subst h2
    go_enter Try.func104, Try.ntmps104
    go_wp2_with fail
    refine (prefix_any _ _ enters_isDigit isDigit_any _ _ hs').mono ?_
    rintro e w' ⟨rfl, rfl⟩
    rw [HE.out]
    go_wp2
    go_ret2
    refine ⟨?_, rfl⟩
    rw [HX.out]
    rfl
  by_cases h3 : c = 92
  · subst h3
    go_enter Try.func104, Try.ntmps104
    go_wp2_with fail
    refine (prefix_any _ _ enters_isDigit isDigit_any _ _ hs').mono ?_
    rintro e w' ⟨rfl, rfl⟩
    rw [HE.out]
    go_wp2
    go_ret2
    refine ⟨?_, rfl⟩
    rw [HX.out]
    rfl
  by_cases h4 : c = 34
  · subst h4
    go_enter Try.func104, Try.ntmps104
    go_wp2_with fail
    refine (prefix_any _ _ enters_isDigit isDigit_any _ _ hs').mono ?_
    rintro e w' ⟨rfl, rfl⟩
    rw [HE.out]
    go_wp2
    go_ret2
    refine ⟨?_, rfl⟩
    rw [HX.out]
    rfl
  have g1 : ((c.toNat : Int) == 110) = false := byte_ne h1
  have g2 : ((c.toNat : Int) == 116) = false := byte_ne h2
  have g3 : ((c.toNat : Int) == 92) = false := byte_ne h3
  have g4 : ((c.toNat : Int) == 34) = false := byte_ne h4
  have hX : X = (0, 0) := by rw [HX.out, if_neg h1, if_neg h2, if_neg (by simp [h3, h4])]
  clear h1 h2 h3 h4 HX
  subst hX
  go_enter Try.func104, Try.ntmps104
  go_wp2_with fail
  refine (prefix_any _ _ enters_isDigit isDigit_any _ _ hs').mono ?_
  rintro e w' ⟨rfl, rfl⟩
  rw [HE.out]
  go_wp2
  go_ret2
  exact ⟨rfl, rfl⟩

set_option maxHeartbeats 400000 in
set_option maxRecDepth 100000 in
theorem escape_number (c0 : UInt8) (l : List UInt8) (w : World) (hs : l.length + 1 ≤ maxLen) (he : ¬ l.takeWhile digB = []) :
    Calls Try.prog 104 #[.string (bt (c0 :: l))] w fun e w' => e = charR (escL (c0 :: l)) ∧ w = w' := by
  have hs' : l.length ≤ maxLen := by omega
  have ht := takeWhile_len digB l
  have hs2 : (l.takeWhile digB).length ≤ maxLen := by omega
  have HA := Lib.hid (all_takeWhile digB l)
  have hb := bt_drop (c0 :: l) 1
  simp only [List.length_cons, List.drop_succ_cons, List.drop_zero] at hb
  have HE := Lib.hid he
  have he' : (l.takeWhile digB).isEmpty = false := by simpa using he
  cases hv : valL 255 0 (l.takeWhile digB) with
  | none =>
    have HV := Lib.hid hv
    clear hv
    go_enter Try.func104, Try.ntmps104
    go_wp2_with fail
    refine (prefix_any _ _ enters_isDigit isDigit_any _ _ hs').mono ?_
    rintro e w' ⟨rfl, rfl⟩
    go_wp2_with fail
    refine (value_any _ _ _ hs2 HA.out (by omega) (by omega)).mono ?_
    rintro e w' ⟨rfl, rfl⟩
    rw [HV.out]
    unfold valR
    go_wp2
    go_ret2
    refine ⟨?_, rfl⟩
    have hx : escL (c0 :: l) = (0, 0) := by
      unfold escL
      simp only [List.drop_succ_cons, List.drop_zero]
      rw [if_neg HE.out, HV.out]
    rw [hx]
    rfl
  | some n =>
    have HV := Lib.hid hv
    obtain ⟨n0, n1⟩ := val255 _ 0 (by omega) (by omega) n hv
    clear hv
    go_enter Try.func104, Try.ntmps104
    go_wp2_with fail
    refine (prefix_any _ _ enters_isDigit isDigit_any _ _ hs').mono ?_
    rintro e w' ⟨rfl, rfl⟩
    go_wp2_with fail
    refine (value_any _ _ _ hs2 HA.out (by omega) (by omega)).mono ?_
    rintro e w' ⟨rfl, rfl⟩
    rw [HV.out]
    unfold valR
    unfold maxLen at hs
    go_wp2
    go_ret2
    refine ⟨?_, rfl⟩
    have hx : escL (c0 :: l) = (n.toNat.toUInt8, 1 + (l.takeWhile digB).length) := by
      unfold escL
      simp only [List.drop_succ_cons, List.drop_zero]
      rw [if_neg HE.out, HV.out]
    rw [hx]
    have hn : ((n.toNat.toUInt8).toNat : Int) = n := by
      simp
      omega
    unfold charR
    simp only [hn]
    simp

theorem escape_any (c0 : UInt8) (l : List UInt8) (w : World) (hs : (c0 :: l).length ≤ maxLen) :
    Calls Try.prog 104 #[.string (bt (c0 :: l))] w fun e w' => e = charR (escL (c0 :: l)) ∧ w = w' := by
  by_cases he : l.takeWhile digB = []
  · cases l with
    | nil => exact escape_none c0 w
    | cons c r =>
      have hc : digB c = false := by
        cases h : digB c with
        | false => rfl
        | true => simp [h] at he
      have hx : escL (c0 :: c :: r) = if c = 110 then (10, 2) else if c = 116 then (9, 2) else if c = 92 ∨ c = 34 then (c, 2) else (0, 0) := by
        unfold escL
        rw [if_pos (by exact he)]
      rw [hx]
      exact escape_byte c0 c r w (by simpa using hs) hc
  · exact escape_number c0 l w (by simpa using hs) he

set_option maxHeartbeats 400000 in
set_option maxRecDepth 100000 in
theorem character_any (c : UInt8) (l : List UInt8) (w : World) (hs : (c :: l).length ≤ maxLen) :
    Calls Try.prog 82 #[.string (bt (c :: l))] w fun e w' => e = charR (charL (c :: l)) ∧ w = w' := by
  have hr : l.length + 1 ≤ maxLen := by simpa using hs
  unfold maxLen at hr
  by_cases h1 : c = 92
  · subst h1
    go_enter Try.func82, Try.ntmps82
    go_wp2_with fail
    refine (escape_any _ _ _ hs).mono ?_
    rintro e w' ⟨rfl, rfl⟩
    unfold charR
    go_wp2
    go_ret2
    exact ⟨rfl, rfl⟩
  · have g1 : ((c.toNat : Int) == 92) = false := byte_ne h1
    by_cases h2 : c < 32 ∨ 126 < c
    · have HX := Lib.hid (show charL (c :: l) = (0, 0) by rw [charL_cons, if_neg h1, if_pos h2])
      have h2' : (c.toNat : Int) < 32 ∨ (126 : Int) < (c.toNat : Int) := by
        simp [UInt8.lt_iff_toNat_lt] at h2
        omega
      clear h1 h2
      rcases h2' with h2 | h2
      · go_enter Try.func82, Try.ntmps82
        go_wp2
        go_ret2
        refine ⟨?_, rfl⟩
        rw [HX.out]
        rfl
      · have h3 : ¬ (c.toNat : Int) < 32 := by omega
        go_enter Try.func82, Try.ntmps82
        go_wp2
        go_ret2
        refine ⟨?_, rfl⟩
        rw [HX.out]
        rfl
    · have HX := Lib.hid (show charL (c :: l) = (c, 1) by rw [charL_cons, if_neg h1, if_neg h2])
      have h2' : ¬ (c.toNat : Int) < 32 ∧ ¬ (126 : Int) < (c.toNat : Int) := by
        simp [UInt8.lt_iff_toNat_lt] at h2
        omega
      clear h1 h2
      obtain ⟨h2, h3⟩ := h2'
      go_enter Try.func82, Try.ntmps82
      go_wp2
      go_ret2
      refine ⟨?_, rfl⟩
      rw [HX.out]
      rfl
end Go.Proofs.Ytbjbmehkcfpahaa
