/- The contract of bounded. No condition but a bound on how many expressions there are. -/
import Derived.Test.YtfcogjlojfcfkaaGreatMA
namespace Go.Proofs.YtfcogjlojfcfkaaGreat
open Go.RowKit Ex0

/-- The zero expression's cells. -/
def zeroEx : Obj := .cells #[.int .i64 0, .string ⟨#[]⟩, .int .i64 0, .int .i64 0, .slice none 0 0, .slice none 0 0, .slice none 0 0, .slice none 0 0] 27

def BndPost (n : Nat) (w : World) (e : Ending) (w' : World) : Prop := ∃ (m : Nat) (ok : Bool), e = .returned (.tuple #[.int .i64 m, .bool ok]) ∧ 1 ≤ m ∧ m ≤ n ∧ (ok = true → m < 30000 → m = n) ∧ Below w.heap.size w w'

set_option maxHeartbeats 2000000 in
set_option maxRecDepth 100000 in
theorem bounded_any (n : Nat) : ∀ (k : Int) (s : List UInt8) (nn op : Int) (vn va vb vc : Value) (ns : List (List UInt8)) (a b c : Fx) (i : Int) (w : World), (parts a b c).count < n → (parts a b c).count ≤ 1048576 → 0 ≤ i → i ≤ 2001 →
    ExV (Old w.heap.size) w vn va vb vc ns a b c → Calls Tryz.prog 11 #[exV k s nn op vn va vb vc, .int .i64 i] w (BndPost (1 + (parts a b c).count) w) := by
  induction n with
  | zero => intro _ _ _ _ _ _ _ _ _ _ _ _ _ _ h; omega
  | succ n ih =>
    intro k s nn op vn va vb vc ns a b c i w hn hb hi0 hi1 hv
    obtain ⟨an, cn, rfl⟩ := hv.ns.slice
    obtain ⟨aa, ca, rfl⟩ := hv.a.slice
    obtain ⟨ab, cb, rfl⟩ := hv.b.slice
    obtain ⟨ac, cc, rfl⟩ := hv.c.slice
    have HV := Lib.hid hv
    have hlen : a.len + b.len + c.len ≤ 1048576 := by have := (parts a b c).len_le; rw [parts_len] at this; omega
    clear hv
    by_cases hi : i = 2001
    · have ht : decide ((2000 : Int) < i) = true := by simp; omega
      unfold exV
      go_enter Tryz.func11, Tryz.ntmps11
      go_wp2_with fail
      go_ret2
      exact ⟨1, false, rfl, by omega, by omega, (fun h => by cases h), below_alloc' _ _⟩
    · have ht : decide ((2000 : Int) < i) = false := by simp; omega
      unfold exV
      go_enter Tryz.func11, Tryz.ntmps11
      go_wp2_with fail
      go_loopw [6, 7, 8] (fun m ok j wr => ∃ (f1 f2 : Fx) (mm : Nat) (o : Bool), parts a b c = f1.app f2 ∧ j = .int .i64 f1.len ∧ m = .int .i64 mm ∧ ok = .bool o ∧ 1 ≤ mm ∧ mm ≤ 1 + f1.count ∧ (o = true → mm < 30000 → mm = 1 + f1.count) ∧ Below (w.heap.size + 1) (w.alloc (exBox k s nn op (.slice an ns.length cn) (.slice aa a.len ca) (.slice ab b.len cb) (.slice ac c.len cc))) wr) (fun _ _ j _ => (parts a b c).len - (intOf j).toNat)
      case atStart => exact ⟨.nil, parts a b c, 1, true, rfl, rfl, rfl, rfl, by omega, by omega, (fun _ _ => by simp [Fx.count]), Below.refl _ _⟩
      case round =>
        obtain ⟨f1, f2, mm, o, hf, rfl, rfl, rfl, hm1, hm2, hme, hbel⟩ := hrel
        have HME := Lib.hid hme
        clear hme
        have HW := hbel.size
        simp only [World.size_alloc] at HW
        obtain ⟨b0, b1, b2, b3, b4, b5, b6, b7⟩ := exBox_cell (Nat.lt_succ_self _) hbel
        have HB := Lib.hid hbel
        have HB2 := Lib.hid (below_old hbel)
        have HF := Lib.hid hf
        have HN := Lib.hid (congrArg Fx.count hf)
        have HL := Lib.hid (congrArg Fx.len hf)
        have hmb : mm ≤ 1048577 := by have := HN.out; rw [Fx.count_app] at this; omega
        clear hbel hf
        have fin : ∀ (x : Bool) (w' : World), (x = true → mm < 30000 → mm = 1 + (parts a b c).count) → Below (w.heap.size + 1) (w.alloc (exBox k s nn op (.slice an ns.length cn) (.slice aa a.len ca) (.slice ab b.len cb) (.slice ac c.len cc))) w' → BndPost (1 + (parts a b c).count) w (.returned (.tuple #[.int .i64 mm, .bool x])) w' :=
          fun x w' hx h => ⟨mm, x, rfl, hm1, by have := HN.out; rw [Fx.count_app] at this; omega, hx, below_old h⟩
        have HFin := Lib.hid fin
        clear fin
        cases f2 with
        | nil =>
          have hlt : decide ((f1.len : Int) < (a.len : Int) + b.len + c.len) = false := by have := HL.out; rw [parts_len, Fx.len_app] at this; simp only [Fx.len] at this; simp; omega
          go_wp2_with fail
          go_ret2
          exact HFin.out o wr (fun h1 h2 => by have := HME.out h1 h2; have h3 := HN.out; rw [Fx.count_app] at h3; simp only [Fx.count] at h3; omega) HB.out
        | cons p1 k1 s1 n1 op1 ns1 x y z r =>
          have hlt : decide ((f1.len : Int) < (a.len : Int) + b.len + c.len) = true := by have := HL.out; rw [parts_len, Fx.len_app] at this; simp only [Fx.len] at this; simp; omega
          cases o with
          | false =>
            go_wp2_with fail
            go_ret2
            exact HFin.out false wr (fun h => by cases h) HB.out
          | true =>
            by_cases hlim : (mm : Int) < 30000
            · have hl1 : decide ((mm : Int) < 30000) = true := by simpa using hlim
              have HP := place_of HF.out
              clear hlim
              cases HP with
              | a h1 r' e =>
                have hneg : decide ((f1.len : Int) - a.len < 0) = true := by simp; omega
                obtain ⟨bb, oo, xn, xa, xb, xc, rfl, hbb, hlc, hcm, hlt1, _, c0, c1, c2, c3, c4, c5, c6, c7, hx⟩ := fx_at (HV.out.a.keep (keep_below HB2.out fun _ h => h)) e
                obtain ⟨yn, qn, rfl⟩ := hx.ns.slice
                obtain ⟨ya, qa, rfl⟩ := hx.a.slice
                obtain ⟨yb, qb, rfl⟩ := hx.b.slice
                obtain ⟨yc, qc, rfl⟩ := hx.c.slice
                have HX := Lib.hid hx
                have HE := Lib.hid e
                clear hx e
                simp only [Nat.add_zero, Nat.zero_add] at c0 c1 c2 c3 c4 c5 c6 c7
                have hbb' : bb < w.heap.size := hbb
                clear hbb
                have hbw : bb < wr.heap.size := by omega
                have z5 := cell_al (by omega) b5
                have z6 := cell_al (by omega) b6
                have z7 := cell_al (by omega) b7
                replace c0 := cell_al hbw c0
                replace c1 := cell_al hbw c1
                replace c2 := cell_al hbw c2
                replace c3 := cell_al hbw c3
                replace c4 := cell_al hbw c4
                replace c5 := cell_al hbw c5
                replace c6 := cell_al hbw c6
                replace c7 := cell_al hbw c7
                have hcx : (parts x y z).count < n ∧ f1.count + (1 + (parts x y z).count) ≤ 1048576 := by have := HN.out; rw [Fx.count_app] at this; simp only [Fx.count] at this; rw [parts_count x y z]; omega
                obtain ⟨hcx1, hcx2⟩ := hcx
                go_wp2_with fail
                refine (ih k1 s1 n1 op1 _ _ _ _ ns1 x y z (i + 1) _ hcx1 (by omega) (by omega) (by omega) (HX.out.keep (keep_up (below_alloc' _ _) (by omega)))).mono ?_
                rintro e w3 ⟨m3, o3, rfl, hm31, hm32, hme3, hb3⟩
                have HME3 := Lib.hid hme3
                clear hme3
                have HB3 := Lib.hid (show Below (w.heap.size + 1) (w.alloc (exBox k s nn op (.slice an ns.length cn) (.slice (some ⟨bb, oo, none⟩) a.len ca) (.slice ab b.len cb) (.slice ac c.len cc))) w3 from blwS (HB.out.alloc HW _) hb3 (by simp; omega))
                clear hb3
                go_wp2
                go_roundw
                case rel => exact ⟨f1.app (.cons p1 k1 s1 n1 op1 ns1 x y z .nil), r, mm + m3, o3, by rw [Fx.app_app]; exact HF.out, by rw [Fx.len_app]; simp only [Fx.len]; go_num, by go_num, rfl, by omega, by rw [Fx.count_app]; simp only [Fx.count]; rw [parts_count x y z] at hm32; omega, (fun h1 h2 => by have h4 := HME3.out h1 (by omega); have h5 := HME.out (by simp) (by omega); rw [Fx.count_app]; simp only [Fx.count]; rw [parts_count x y z] at h4; omega), HB3.out⟩
                case measure => have := HL.out; rw [Fx.len_app] at this; simp only [Fx.len] at this; simp [intOf]; omega
              | b g h0 h1 r' e =>
                have hsub : (f1.len : Int) - a.len = g.len := by omega
                have hneg : decide ((g.len : Int) < 0) = false := by simp
                have hpos : decide ((g.len : Int) < b.len) = true := by simp; omega
                have hgl : (0 : Int) ≤ g.len ∧ (g.len : Int) ≤ 1048576 := by omega
                have hf1 : f1.len ≤ 1048576 := by omega
                clear h0
                obtain ⟨bb, oo, xn, xa, xb, xc, rfl, hbb, hlc, hcm, hlt1, _, c0, c1, c2, c3, c4, c5, c6, c7, hx⟩ := fx_at (HV.out.b.keep (keep_below HB2.out fun _ h => h)) e
                obtain ⟨yn, qn, rfl⟩ := hx.ns.slice
                obtain ⟨ya, qa, rfl⟩ := hx.a.slice
                obtain ⟨yb, qb, rfl⟩ := hx.b.slice
                obtain ⟨yc, qc, rfl⟩ := hx.c.slice
                have HX := Lib.hid hx
                have HE := Lib.hid e
                clear hx e
                simp only [Nat.reduceAdd] at c0 c1 c2 c3 c4 c5 c6 c7
                have hbb' : bb < w.heap.size := hbb
                clear hbb
                have hbw : bb < wr.heap.size := by omega
                have z5 := cell_al (by omega) b5
                have z6 := cell_al (by omega) b6
                have z7 := cell_al (by omega) b7
                replace c0 := cell_al hbw c0
                replace c1 := cell_al hbw c1
                replace c2 := cell_al hbw c2
                replace c3 := cell_al hbw c3
                replace c4 := cell_al hbw c4
                replace c5 := cell_al hbw c5
                replace c6 := cell_al hbw c6
                replace c7 := cell_al hbw c7
                have hcx : (parts x y z).count < n ∧ f1.count + (1 + (parts x y z).count) ≤ 1048576 := by have := HN.out; rw [Fx.count_app] at this; simp only [Fx.count] at this; rw [parts_count x y z]; omega
                obtain ⟨hcx1, hcx2⟩ := hcx
                go_wp2_with fail
                refine (ih k1 s1 n1 op1 _ _ _ _ ns1 x y z (i + 1) _ hcx1 (by omega) (by omega) (by omega) (HX.out.keep (keep_up (below_alloc' _ _) (by omega)))).mono ?_
                rintro e w3 ⟨m3, o3, rfl, hm31, hm32, hme3, hb3⟩
                have HME3 := Lib.hid hme3
                clear hme3
                have HB3 := Lib.hid (show Below (w.heap.size + 1) (w.alloc (exBox k s nn op (.slice an ns.length cn) (.slice aa a.len ca) (.slice (some ⟨bb, oo, none⟩) b.len cb) (.slice ac c.len cc))) w3 from blwS (HB.out.alloc HW _) hb3 (by simp; omega))
                clear hb3
                go_wp2
                go_roundw
                case rel => exact ⟨f1.app (.cons p1 k1 s1 n1 op1 ns1 x y z .nil), r, mm + m3, o3, by rw [Fx.app_app]; exact HF.out, by rw [Fx.len_app]; simp only [Fx.len]; go_num, by go_num, rfl, by omega, by rw [Fx.count_app]; simp only [Fx.count]; rw [parts_count x y z] at hm32; omega, (fun h1 h2 => by have h4 := HME3.out h1 (by omega); have h5 := HME.out (by simp) (by omega); rw [Fx.count_app]; simp only [Fx.count]; rw [parts_count x y z] at h4; omega), HB3.out⟩
                case measure => have := HL.out; rw [Fx.len_app] at this; simp only [Fx.len] at this; simp [intOf]; omega
              | c g h0 h1 r' e =>
                have hsub : (f1.len : Int) - a.len = b.len + g.len := by omega
                have hneg : decide ((b.len : Int) + g.len < 0) = false := decide_eq_false (by omega)
                have hpos : decide ((b.len : Int) + g.len < b.len) = false := decide_eq_false (by omega)
                have hsub2 : (b.len : Int) + g.len - b.len = g.len := by omega
                have hgl : (0 : Int) ≤ g.len ∧ (g.len : Int) ≤ 1048576 := by omega
                have hf1 : f1.len ≤ 1048576 := by omega
                clear h0
                obtain ⟨bb, oo, xn, xa, xb, xc, rfl, hbb, hlc, hcm, hlt1, _, c0, c1, c2, c3, c4, c5, c6, c7, hx⟩ := fx_at (HV.out.c.keep (keep_below HB2.out fun _ h => h)) e
                obtain ⟨yn, qn, rfl⟩ := hx.ns.slice
                obtain ⟨ya, qa, rfl⟩ := hx.a.slice
                obtain ⟨yb, qb, rfl⟩ := hx.b.slice
                obtain ⟨yc, qc, rfl⟩ := hx.c.slice
                have HX := Lib.hid hx
                have HE := Lib.hid e
                clear hx e
                simp only [Nat.reduceAdd] at c0 c1 c2 c3 c4 c5 c6 c7
                have hbb' : bb < w.heap.size := hbb
                clear hbb
                have hbw : bb < wr.heap.size := by omega
                have z5 := cell_al (by omega) b5
                have z6 := cell_al (by omega) b6
                have z7 := cell_al (by omega) b7
                replace c0 := cell_al hbw c0
                replace c1 := cell_al hbw c1
                replace c2 := cell_al hbw c2
                replace c3 := cell_al hbw c3
                replace c4 := cell_al hbw c4
                replace c5 := cell_al hbw c5
                replace c6 := cell_al hbw c6
                replace c7 := cell_al hbw c7
                have hcx : (parts x y z).count < n ∧ f1.count + (1 + (parts x y z).count) ≤ 1048576 := by have := HN.out; rw [Fx.count_app] at this; simp only [Fx.count] at this; rw [parts_count x y z]; omega
                obtain ⟨hcx1, hcx2⟩ := hcx
                go_wp2_with fail
                refine (ih k1 s1 n1 op1 _ _ _ _ ns1 x y z (i + 1) _ hcx1 (by omega) (by omega) (by omega) (HX.out.keep (keep_up (below_alloc' _ _) (by omega)))).mono ?_
                rintro e w3 ⟨m3, o3, rfl, hm31, hm32, hme3, hb3⟩
                have HME3 := Lib.hid hme3
                clear hme3
                have HB3 := Lib.hid (show Below (w.heap.size + 1) (w.alloc (exBox k s nn op (.slice an ns.length cn) (.slice aa a.len ca) (.slice ab b.len cb) (.slice (some ⟨bb, oo, none⟩) c.len cc))) w3 from blwS (HB.out.alloc HW _) hb3 (by simp; omega))
                clear hb3
                go_wp2
                go_roundw
                case rel => exact ⟨f1.app (.cons p1 k1 s1 n1 op1 ns1 x y z .nil), r, mm + m3, o3, by rw [Fx.app_app]; exact HF.out, by rw [Fx.len_app]; simp only [Fx.len]; go_num, by go_num, rfl, by omega, by rw [Fx.count_app]; simp only [Fx.count]; rw [parts_count x y z] at hm32; omega, (fun h1 h2 => by have h4 := HME3.out h1 (by omega); have h5 := HME.out (by simp) (by omega); rw [Fx.count_app]; simp only [Fx.count]; rw [parts_count x y z] at h4; omega), HB3.out⟩
                case measure => have := HL.out; rw [Fx.len_app] at this; simp only [Fx.len] at this; simp [intOf]; omega
            · have hl1 : decide ((mm : Int) < 30000) = false := by simpa using hlim
              have HLm := Lib.hid hlim
              clear hlim
              go_wp2_with fail
              go_ret2
              exact HFin.out true wr (fun _ h => by have := HLm.out; omega) HB.out
end Go.Proofs.YtfcogjlojfcfkaaGreat
