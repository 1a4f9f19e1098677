/- What is kept is all reached again. No condition. -/
import Derived.Test.YtkdpojmbahjdjaaLiveG
import Derived.Test.YtkdpojmbahjdjaaFew
import Derived.Deep.AppendLies
import Derived.Test.YtkdpojmbahjdjaaAsk
import Derived.Deep.RegionHeld3
import Derived.Test.YtkdpojmbahjdjaaExOpen
namespace Go.Proofs.Ytkdpojmbahjdjaa
section
open Go.RowKit Ex0

theorem plFrom_of : ∀ (l : List (List UInt8 × (List UInt8 → Bool))) (off : Nat) (x : List UInt8) (t : Nat) (p : List UInt8 × (List UInt8 → Bool)), l[t]? = some p → p.1 = x → (∀ t' q, t' < t → l[t']? = some q → q.1 ≠ x) → plFrom l off x = some (off + t)
  | [], _, _, _, _, h, _, _ => by simp at h
  | a :: r, off, x, 0, p, h, hp, _ => by
    simp only [List.getElem?_cons_zero, Option.some.injEq] at h
    subst h
    simp only [plFrom]
    rw [if_pos hp.symm]
    rfl
  | a :: r, off, x, t + 1, p, h, hp, hd => by
    simp only [List.getElem?_cons_succ] at h
    have h1 := hd 0 a (by omega) rfl
    simp only [plFrom]
    rw [if_neg (fun e => h1 e.symm), plFrom_of r (off + 1) x t p h hp (fun t' q ht hq => hd (t' + 1) q (by omega) (by simpa using hq))]
    congr 1
    omega
theorem nodup_sub : ∀ {l1 l2 : List Nat}, l1.Nodup → (∀ x ∈ l1, x ∈ l2) → l1.length ≤ l2.length
  | [], _, _, _ => Nat.zero_le _
  | a :: r, l2, h1, h2 => by
    have ha := h2 a (by simp)
    obtain ⟨h3, h4⟩ := List.nodup_cons.1 h1
    have := nodup_sub (l1 := r) (l2 := l2.erase a) h4 (fun x hx => (List.mem_erase_of_ne (fun (e : x = a) => h3 (by rw [← e]; exact hx))).2 (h2 x (by simp [hx])))
    rw [List.length_erase_of_mem ha] at this
    have hpos : 0 < l2.length := List.length_pos_of_mem ha
    simp only [List.length_cons]
    omega
theorem lt_nodup {xs : List Nat} (h : xs.Pairwise (· < ·)) : xs.Nodup := h.imp (fun h => Nat.ne_of_lt h)
/-- No two names are alike. -/
def Apart (L : List (List UInt8 × (List UInt8 → Bool))) : Prop := ∀ (i j : Nat) (p q : List UInt8 × (List UInt8 → Bool)), i < j → L[i]? = some p → L[j]? = some q → p.1 ≠ q.1
theorem Apart.ne {L : List (List UInt8 × (List UInt8 → Bool))} (h : Apart L) {i j : Nat} {p q : List UInt8 × (List UInt8 → Bool)} (hij : i ≠ j) (hi : L[i]? = some p) (hj : L[j]? = some q) : p.1 ≠ q.1 := by
  rcases Nat.lt_or_gt_of_ne hij with h1 | h1
  · exact h i j p q h1 hi hj
  · exact fun e => h j i q p h1 hj hi e.symm
theorem kept_all {L L' : List (List UInt8 × (List UInt8 → Bool))} {F : List UInt8 → Bool} {xs : List Nat} (hA : Apart L) (hxs : xs.Pairwise (· < ·)) (hR : ∀ i, i ∈ xs ↔ Rch L F i) (hl : ∀ (t i : Nat), xs[t]? = some i → L'[t]? = L[i]?) :
    ∀ t, t < xs.length → Rch L' F t := by
  have hmap : ∀ (x : List UInt8) (i t : Nat), plFrom L 0 x = some i → xs[t]? = some i → plFrom L' 0 x = some t := by
    intro x i t hp ht
    obtain ⟨p, hLp, hpx⟩ := plFrom_get L 0 x i hp
    rw [Nat.sub_zero] at hLp
    have := plFrom_of L' 0 x t p (by rw [hl t i ht, hLp]) hpx (fun t' q ht' hq => by
      have htl := (List.getElem?_eq_some_iff.1 ht).1
      have ht'' : xs[t']? = some xs[t'] := List.getElem?_eq_getElem (by omega)
      rw [hl t' _ ht''] at hq
      have hlt : xs[t'] < i := by
        have := List.pairwise_iff_getElem.1 hxs t' t (by omega) htl ht'
        rwa [(List.getElem?_eq_some_iff.1 ht).2] at this
      have := hA.ne (by omega) hq hLp
      rwa [hpx] at this)
    rwa [Nat.zero_add] at this
  have key : ∀ i, Rch L F i → ∀ t, xs[t]? = some i → Rch L' F t := by
    intro i h
    induction h with
    | root hx hp => exact fun t ht => .root hx (hmap _ _ t hp ht)
    | step hj hLj hx hp ih =>
      intro t ht
      obtain ⟨tj, htj, e⟩ := List.getElem_of_mem ((hR _).2 hj)
      have htj' := (List.getElem?_eq_getElem htj).trans (congrArg some e)
      exact .step (ih tj htj') (by rw [hl tj _ htj', hLj]) hx (hmap _ _ t hp ht)
  intro t ht
  have h1 : xs[t]? = some xs[t] := List.getElem?_eq_getElem ht
  exact key _ ((hR _).1 (List.getElem_mem ht)) t h1
theorem rch_lt {L : List (List UInt8 × (List UInt8 → Bool))} {F : List UInt8 → Bool} {i : Nat} (h : Rch L F i) : i < L.length := by
  cases h with
  | root _ hp => have := (plFrom_lt _ _ _ _ hp).2; omega
  | step _ _ _ hp => have := (plFrom_lt _ _ _ _ hp).2; omega
/-- As many are reached as were kept. -/
theorem kept_len {L L' : List (List UInt8 × (List UInt8 → Bool))} {F : List UInt8 → Bool} {xs ys : List Nat} (hA : Apart L) (hxs : xs.Pairwise (· < ·)) (hR : ∀ i, i ∈ xs ↔ Rch L F i) (hl : ∀ (t i : Nat), xs[t]? = some i → L'[t]? = L[i]?) (hlen : L'.length = xs.length)
    (hys : ys.Pairwise (· < ·)) (hR' : ∀ i, i ∈ ys ↔ Rch L' F i) : ys.length = xs.length := by
  have h1 : ys.length ≤ xs.length := nodup_len (lt_nodup hys) (fun i hi => by rw [← hlen]; exact rch_lt ((hR' i).1 hi))
  have h2 : (List.range xs.length).length ≤ ys.length := nodup_sub List.nodup_range (fun i hi => (hR' i).2 (kept_all hA hxs hR hl i (List.mem_range.1 hi)))
  rw [List.length_range] at h2
  omega
end

section
open Go.RowKit Ex0
attribute [local go_sem] bt_size bt_list bt_toList

theorem count_bind {f f1 r x y z : Fx} {p : Pre} {k : Int} {s : List UInt8} {n op : Int} {ns : List (List UInt8)} (h : f = f1.app (.cons p k s n op ns x y z r)) : (parts x y z).count + 1 ≤ f.count := by
  rw [h, Fx.count_app, parts_count]
  simp only [Fx.count]
  omega

set_option maxHeartbeats 4000000 in
set_option maxRecDepth 100000 in
theorem small_any (w : World) (bs : Fx) (ao : Option Addr) (cap : Nat) (hv : FxV (Old w.heap.size) w 1 (.slice ao bs.len cap) bs) (hb : bs.count ≤ 1048576) :
    Calls Try.prog 5 #[.agg #[.slice none 0 0, .slice ao bs.len cap]] w fun e w' => (∃ v : Bool, e = .returned (.bool v)) ∧ Below w.heap.size w w' := by
  have HV := Lib.hid hv
  have hbl := bs.len_le
  clear hv
  go_enter Try.func5, Try.ntmps5
  go_wp2_with fail
  go_loopw [3] (fun u wr => ∃ j : Nat, j ≤ bs.len ∧ u = .int .i64 j ∧ Below (w.heap.size + 1) (w.alloc (.cells #[.slice none 0 0, .slice ao bs.len cap] 32)) wr) (fun u _ => bs.len - (intOf u).toNat)
  case atStart => exact ⟨0, Nat.zero_le _, rfl, Below.refl _ _⟩
  case round =>
    obtain ⟨j, hj, rfl, hbr⟩ := hrel
    have HBr := Lib.hid hbr
    have HBo := Lib.hid (below_old hbr)
    have hsz : w.heap.size + 1 ≤ wr.heap.size := by have := hbr.size; simp at this; omega
    have p0 : wr.cell? ⟨w.heap.size, 0, none⟩ = some (.slice none 0 0) := (hbr.cell (p := ⟨w.heap.size, 0, none⟩) (Nat.lt_succ_self _)).trans (by simp [go_sem])
    have p1 : wr.cell? ⟨w.heap.size, 1, none⟩ = some (.slice ao bs.len cap) := (hbr.cell (p := ⟨w.heap.size, 1, none⟩) (Nat.lt_succ_self _)).trans (by simp [go_sem])
    clear hbr
    by_cases hlt : j < bs.len
    · obtain ⟨bb, o, s', k, s, n, op, vn, va, vb, vc, ns, a, b, c, f1, r, rfl, hok, hl, hm, hbe, hfl, _, b0, b1, b2, b3, b4, b5, b6, b7, hex⟩ := bind_at (HV.out.keep (keep_below HBo.out fun _ h => h)) (i := j) hlt
      have hcb := count_bind hbe
      have HE := Lib.hid (hex.keep (keep_le wr (fun q (hq : q < w.heap.size) => (by show q < wr.heap.size; omega : Old wr.heap.size q))))
      have hjl : (j : Int) < bs.len := by omega
      have b1' : wr.cell? ⟨bb, o + j * 9 + 1 + 1, none⟩ = some (.string (bt s)) := b1
      have b2' : wr.cell? ⟨bb, o + j * 9 + 1 + 2, none⟩ = some (.int .i64 n) := b2
      have b3' : wr.cell? ⟨bb, o + j * 9 + 1 + 3, none⟩ = some (.int .i64 op) := b3
      have b4' : wr.cell? ⟨bb, o + j * 9 + 1 + 4, none⟩ = some vn := b4
      have b5' : wr.cell? ⟨bb, o + j * 9 + 1 + 5, none⟩ = some va := b5
      have b6' : wr.cell? ⟨bb, o + j * 9 + 1 + 6, none⟩ = some vb := b6
      have b7' : wr.cell? ⟨bb, o + j * 9 + 1 + 7, none⟩ = some vc := b7
      unfold maxLen at hm
      clear hbe hfl hex b1 b2 b3 b4 b5 b6 b7
      go_wp2_with fail
      go_at_call 4
      refine (few_any k s n op _ _ _ _ ns a b c _ (by omega) HE.out).mono ?_
      rintro e w2 ⟨v2, rfl, _, hb2⟩
      have HB2 := Lib.hid (HBr.out.trans (hb2.mono hsz))
      clear hb2 b0 b1' b2' b3' b4' b5' b6' b7'
      cases v2 with
      | false =>
        go_wp2_with fail
        go_ret
        exact ⟨⟨_, rfl⟩, below_old HB2.out⟩
      | true =>
        go_wp2_with fail
        go_roundw
        case rel => exact ⟨j + 1, hlt, by go_num, HB2.out⟩
        case measure => simp [intOf]; omega
    · obtain rfl : j = bs.len := by omega
      by_cases h60 : bs.len ≤ 60
      · have hd : decide ((bs.len : Int) ≤ 60) = true := decide_eq_true (by omega)
        go_wp2_with fail
        go_ret
        exact ⟨⟨_, rfl⟩, HBo.out⟩
      · have hd : decide ((bs.len : Int) ≤ 60) = false := decide_eq_false (by omega)
        go_wp2_with fail
        go_ret
        exact ⟨⟨_, rfl⟩, HBo.out⟩

/-- The cells of a row of binds. -/
def BdRow (ok : Nat → Prop) (w : World) : Fx → List Value → Prop
  | .nil, cs => cs = []
  | .cons p k s n op ns a b c r, cs => ∃ s' vn va vb vc cr, p = .bind s' ∧ cs = .string (bt s') :: .int .i64 k :: .string (bt s) :: .int .i64 n :: .int .i64 op :: vn :: va :: vb :: vc :: cr ∧ ExV ok w vn va vb vc ns a b c ∧ BdRow ok w r cr
theorem BdRow.keep {ok ok' : Nat → Prop} {w w' : World} (h : Keep ok ok' w w') : ∀ {f : Fx} {cs : List Value}, BdRow ok w f cs → BdRow ok' w' f cs
  | .nil, _, e => e
  | .cons _ _ _ _ _ _ _ _ _ _, _, ⟨s', vn, va, vb, vc, cr, hp, e, hx, hr⟩ => ⟨s', vn, va, vb, vc, cr, hp, e, hx.keep h, BdRow.keep h hr⟩
theorem BdRow.app {ok : Nat → Prop} {w : World} {g : Fx} {ds : List Value} (hg : BdRow ok w g ds) : ∀ {f : Fx} {cs : List Value}, BdRow ok w f cs → BdRow ok w (f.app g) (cs ++ ds)
  | .nil, _, e => by cases e; exact hg
  | .cons _ _ _ _ _ _ _ _ _ _, _, ⟨s', vn, va, vb, vc, cr, hp, e, hx, hr⟩ => by subst e; exact ⟨s', vn, va, vb, vc, _, hp, rfl, hx, BdRow.app hg hr⟩
theorem BdRow.length {ok : Nat → Prop} {w : World} : ∀ {f : Fx} {cs : List Value}, BdRow ok w f cs → cs.length = f.len * 9
  | .nil, _, e => by cases e; rfl
  | .cons _ _ _ _ _ _ _ _ _ r, _, ⟨s', vn, va, vb, vc, cr, hp, e, hx, hr⟩ => by
    have := BdRow.length hr
    subst e
    simp only [List.length_cons, Fx.len]
    omega
/-- Such cells lie as such a row. -/
theorem BdRow.at {ok : Nat → Prop} {w : World} {b : Nat} : ∀ {f : Fx} {cs : List Value} {o : Nat}, BdRow ok w f cs → (∀ j u, cs[j]? = some u → w.cell? ⟨b, o + j, none⟩ = some u) → FxAt ok w 1 b o f
  | .nil, _, _, _, _ => trivial
  | .cons p k s n op ns x y z r, cs, o, ⟨s', vn, va, vb, vc, cr, hp, e, hx, hr⟩, hc => by
    subst e
    subst hp
    refine fxAt_cons.2 ⟨⟨rfl, hc 0 _ rfl⟩, hc 1 _ rfl, hc 2 _ rfl, hc 3 _ rfl, hc 4 _ rfl, ⟨vn, va, vb, vc, hc 5 _ rfl, hc 6 _ rfl, hc 7 _ rfl, hc 8 _ rfl, hx⟩, BdRow.at hr fun j u hj => ?_⟩
    rw [show o + (1 + 8) + j = o + (j + 9) by omega]
    exact hc (j + 9) u hj
/-- A row that the program has built reads as its binds. -/
theorem BdRow.value {ok ok' : Nat → Prop} {w : World} {base n : Nat} {T : TypeId} {v : Value} {f : Fx} {cs : List Value} (h : BdRow ok w f cs) (hown : w.ownsRow base T 9 v n cs) (hn : n = f.len) (hok : ∀ b, ok b → ok' b) (hg : ∀ g, v.ownBlock = some g → ok' g) : FxV ok' w 1 v f := by
  obtain ⟨hl, ho⟩ := hown
  rcases ho with ⟨rfl, h0⟩ | ⟨g, cap, cur, rfl, hgb, hh, hc, hm, hs, ht⟩
  · have : f = .nil := Fx.len_zero (by omega)
    subst this
    exact .inl ⟨rfl, _, _, rfl⟩
  · by_cases hf : f = .nil
    · subst hf
      subst hn
      exact .inl ⟨rfl, _, _, rfl⟩
    · subst hn
      refine .inr ⟨hf, g, 0, cap, rfl, hg g rfl, hc, hm, (h.keep (keep_le w hok)).at fun j u hj => ?_⟩
      have hlt : j < f.len * 9 := by
        have := (List.getElem?_eq_some_iff.1 hj).1
        omega
      rw [← ht, List.getElem?_take_of_lt hlt] at hj
      simp [World.cell?, hh]
      simpa using hj
end

section
open Go.RowKit Ex0
attribute [local go_sem] bt_size bt_list bt_toList

theorem info_bind : (Try.prog.info? 35).map (fun i => (i.zero, i.size, i.bytes)) = some (some (.agg #[.string ⟨#[]⟩, .int .i64 0, .string ⟨#[]⟩, .int .i64 0, .int .i64 0, .slice none 0 0, .slice none 0 0, .slice none 0 0, .slice none 0 0]), 9, 152) := by kernel_rfl
/-- An owned row of numbers, and the block that it lies in (any, if there are none). -/
theorem is_form {w : World} {base : Nat} {E : TypeId} {v : Value} {xs : List Nat} (h : w.ownsRow base E 1 v xs.length (xs.map fun i => Value.int .i64 (i : Nat))) : ∃ ad g c, v = .slice ad xs.length c ∧ (xs ≠ [] → ad = some ⟨g, 0, none⟩ ∧ xs.length ≤ c ∧ c ≤ maxLen ∧ base ≤ g ∧ g < w.heap.size) ∧ ∀ (t i : Nat), xs[t]? = some i → w.cell? ⟨g, t, none⟩ = some (.int .i64 (i : Nat)) := by
  rcases h.2 with ⟨rfl, h0⟩ | ⟨g, c, cur, rfl, hg, hh, hc, hm, hs, ht⟩
  · have : xs = [] := List.eq_nil_of_length_eq_zero h0
    subst this
    exact ⟨none, 0, 0, rfl, fun h => absurd rfl h, fun t i hi => by simp at hi⟩
  · refine ⟨_, g, c, rfl, fun _ => ⟨rfl, hc, hm, hg, (Array.getElem?_eq_some_iff.1 hh).1⟩, fun t i hi => ?_⟩
    have := h.cells (g := g) rfl t (.int .i64 (i : Nat)) (by simp [hi])
    rwa [show (⟨g, 0, none⟩ : Addr).add t = ⟨g, t, none⟩ from by unfold Addr.add; split <;> simp_all] at this
theorem okb_nil : OkB .nil := fun f1 s' k s n op ns a b c r h => by cases f1 <;> simp [Fx.app] at h
theorem okb_push {g : Fx} {s' : List UInt8} {k : Int} {s : List UInt8} {n op : Int} {ns : List (List UInt8)} {a b c : Fx} (h : OkB g) (hs : s'.length ≤ maxLen) (he : OkE s ns a b c) : OkB (g.app (.cons (.bind s') k s n op ns a b c .nil)) := by
  intro f1 s2 k2 s3 n2 op2 ns2 a2 b2 c2 r e
  rcases Fx.app_split e with ⟨_, r', e'⟩ | ⟨_, g1, e1, e2⟩
  · exact h _ _ _ _ _ _ _ _ _ _ _ e'
  · cases g1 with
    | nil =>
      simp only [Fx.app, Fx.cons.injEq, Pre.bind.injEq] at e2
      obtain ⟨rfl, rfl, rfl, rfl, rfl, rfl, rfl, rfl, rfl, _⟩ := e2
      exact ⟨hs, he⟩
    | cons p' k' s4 n' op' ns' a' b' c' r' =>
      simp only [Fx.app, Fx.cons.injEq] at e2
      have := e2.2.2.2.2.2.2.2.2.2
      cases r' <;> simp [Fx.app] at this

theorem kept_step {w4 wr w6 : World} {T : TypeId} {u lv6 : Value} {j i : Nat} {g bs : Fx} {cs : List Value} {xs : List Nat} {s1 : List UInt8} {k1 : Int} {t1 : List UInt8} {n1 op1 : Int} {vn va vb vc : Value} {ns1 : List (List UInt8)} {a1 b1 c1 : Fx}
    (hB : Below w4.heap.size w4 wr) (hbd : BdRow (Old w4.heap.size) wr g cs) (hown : wr.ownsRow w4.heap.size T 9 u j cs) (hsel : ∀ (t i : Nat), t < j → xs[t]? = some i → (bl g)[t]? = (bl bs)[i]?) (hokg : OkB g) (hgl : g.len = j)
    (hgr : wr.grownBy w6 u.ownBlock) (hown6 : w6.ownsRow w4.heap.size T 9 lv6 (j + 1) (cs ++ [.string (bt s1), .int .i64 k1, .string (bt t1), .int .i64 n1, .int .i64 op1, vn, va, vb, vc])) (h1 : (bl bs)[i]? = some (s1, fun x => fvE x k1 t1 ns1 a1 b1 c1))
    (hob : s1.length ≤ maxLen ∧ OkE t1 ns1 a1 b1 c1) (hex : ExV (Old w4.heap.size) wr vn va vb vc ns1 a1 b1 c1) (hxi : xs[j]? = some i) :
    ∃ g' cs', Below w4.heap.size w4 w6 ∧ g'.len = j + 1 ∧ BdRow (Old w4.heap.size) w6 g' cs' ∧ w6.ownsRow w4.heap.size T 9 lv6 (j + 1) cs' ∧ (∀ (t i : Nat), t < j + 1 → xs[t]? = some i → (bl g')[t]? = (bl bs)[i]?) ∧ OkB g' := by
  have hB6 := hB.grown hgr hB.size (fun q hq => (hown.lt q hq).1)
  have hkeep : Keep (Old w4.heap.size) (Old w4.heap.size) wr w6 := fun b hb => ⟨hb, fun o => World.cell?_of_block (w := wr) (w' := w6) (a := ⟨b, o, none⟩) (hgr.block b (Nat.lt_of_lt_of_le hb hB.size) (fun e => by have := (hown.lt b e.symm).1; have : b < w4.heap.size := hb; omega))⟩
  have hone : BdRow (Old w4.heap.size) w6 (.cons (.bind s1) k1 t1 n1 op1 ns1 a1 b1 c1 .nil) [.string (bt s1), .int .i64 k1, .string (bt t1), .int .i64 n1, .int .i64 op1, vn, va, vb, vc] := ⟨s1, vn, va, vb, vc, [], rfl, rfl, hex.keep hkeep, rfl⟩
  refine ⟨g.app (.cons (.bind s1) k1 t1 n1 op1 ns1 a1 b1 c1 .nil), _, hB6, by rw [Fx.len_app, hgl]; rfl, BdRow.app hone (hbd.keep hkeep), hown6, fun t i' ht hx => ?_, okb_push hokg hob.1 hob.2⟩
  by_cases htj : t = j
  · subst htj
    rw [hxi] at hx
    cases hx
    rw [h1, ← hgl]
    exact bl_at g .nil s1 k1 t1 n1 op1 ns1 a1 b1 c1
  · rw [bl_app, List.getElem?_append_left (by rw [bl_len, hgl]; omega)]
    exact hsel t i' (by omega) hx

set_option maxHeartbeats 4000000 in
set_option maxRecDepth 100000 in
theorem live_law (HA : AwakeC) (k : Int) (s : List UInt8) (nn op : Int) (vn va vb vc : Value) (ns : List (List UInt8)) (a b c bs : Fx) (ao : Option Addr) (cap : Nat) (w : World) (hx : ExV (Old w.heap.size) w vn va vb vc ns a b c) (hv : FxV (Old w.heap.size) w 1 (.slice ao bs.len cap) bs)
    (hok : OkE s ns a b c) (hob : OkB bs) (hbc : bs.count ≤ 1048576) :
    Calls Try.prog 3 #[exV k s nn op vn va vb vc, .slice ao bs.len cap] w fun e w' => e = .returned (.bool true) ∧ Below w.heap.size w w' := by
  obtain ⟨an, cn, rfl⟩ := hx.ns.slice
  obtain ⟨aa, ca, rfl⟩ := hx.a.slice
  obtain ⟨ab, cb, rfl⟩ := hx.b.slice
  obtain ⟨ac, cc, rfl⟩ := hx.c.slice
  have HX := Lib.hid hx
  have HV := Lib.hid hv
  have HOk := Lib.hid hok
  have HOb := Lib.hid hob
  have hcnt : (parts a b c).count ≤ 1048576 := by have := hok.cnt; omega
  have hbl := bs.len_le
  clear hx hv hok hob
  unfold exV
  have HK := Lib.hid (show ∀ W, Below (w.heap.size + 1) (w.alloc (exBox k s nn op (.slice an ns.length cn) (.slice aa a.len ca) (.slice ab b.len cb) (.slice ac c.len cc))) W → ExV (Old W.heap.size) W (.slice an ns.length cn) (.slice aa a.len ca) (.slice ab b.len cb) (.slice ac c.len cc) ns a b c ∧ FxV (Old W.heap.size) W 1 (.slice ao bs.len cap) bs ∧ w.heap.size + 1 ≤ W.heap.size from
    fun W h => ⟨HX.out.keep (keep_up (below_old h) (Nat.le_refl _)), HV.out.keep (keep_up (below_old h) (Nat.le_refl _)), by have := h.size; simp at this; omega⟩)
  go_enter Try.func3, Try.ntmps3
  go_wp2_with fail
  refine (few_any k s nn op _ _ _ _ ns a b c _ hcnt (HX.out.keep (keep_up (below_alloc' _ _) (Nat.le_refl _)))).mono ?_
  rintro e w2 ⟨v2, rfl, _, hb2⟩
  have HB2 := Lib.hid (show Below (w.heap.size + 1) (w.alloc (exBox k s nn op (.slice an ns.length cn) (.slice aa a.len ca) (.slice ab b.len cb) (.slice ac c.len cc))) w2 from hb2.mono (by simp))
  clear hb2
  cases v2 with
  | false =>
    go_wp2_with fail
    refine (HA _).mono ?_
    rintro e w9 ⟨rfl, hb9⟩
    have HB9 := Lib.hid (blwS (below_old HB2.out) hb9 (below_old HB2.out).size)
    clear hb9
    go_wp2_with fail
    go_ret
    exact ⟨rfl, HB9.out⟩
  | true =>
    go_wp2_with fail
    refine (small_any _ bs ao cap (HK.out _ HB2.out).2.1 hbc).mono ?_
    rintro e w3 ⟨⟨v3, rfl⟩, hb3⟩
    have HB3 := Lib.hid (blwS HB2.out hb3 (HK.out _ HB2.out).2.2)
    clear hb3
    cases v3 with
    | false =>
      go_wp2_with fail
      refine (HA _).mono ?_
      rintro e w9 ⟨rfl, hb9⟩
      have HB9 := Lib.hid (blwS (below_old HB3.out) hb9 (below_old HB3.out).size)
      clear hb9
      go_wp2_with fail
      go_ret
      exact ⟨rfl, HB9.out⟩
    | true =>
      go_wp2_with fail
      go_loopw [5] (fun u wr => ∃ i : Nat, i ≤ bs.len ∧ u = .int .i64 i ∧ Below (w.heap.size + 1) (w.alloc (exBox k s nn op (.slice an ns.length cn) (.slice aa a.len ca) (.slice ab b.len cb) (.slice ac c.len cc))) wr ∧ (∀ (p q : Nat) (x y : List UInt8 × (List UInt8 → Bool)), p < q → q < i → (bl bs)[p]? = some x → (bl bs)[q]? = some y → x.1 ≠ y.1)) (fun u _ => bs.len - (intOf u).toNat)
      case atStart => exact ⟨0, Nat.zero_le _, rfl, HB3.out, fun p q x y _ h => by omega⟩
      case round =>
        obtain ⟨i, hi, rfl, hbr, hap⟩ := hrel
        have HBr := Lib.hid hbr
        have HAp := Lib.hid hap
        clear hbr hap
        by_cases hlt : i < bs.len
        · have hil : (i : Int) < bs.len := by omega
          go_wp2_with fail
          go_loopw [6] (fun u wq => ∃ j : Nat, j ≤ i ∧ u = .int .i64 j ∧ Below (w.heap.size + 1) (w.alloc (exBox k s nn op (.slice an ns.length cn) (.slice aa a.len ca) (.slice ab b.len cb) (.slice ac c.len cc))) wq ∧ (∀ (p : Nat) (x y : List UInt8 × (List UInt8 → Bool)), p < j → (bl bs)[p]? = some x → (bl bs)[i]? = some y → x.1 ≠ y.1)) (fun u _ => i - (intOf u).toNat)
          case atStart => exact ⟨0, Nat.zero_le _, rfl, HBr.out, fun p x y h => by omega⟩
          case round =>
            obtain ⟨j, hj, rfl, hbq, haj⟩ := hrel
            have HBq := Lib.hid hbq
            have HAj := Lib.hid haj
            clear hbq haj
            by_cases hjl : j < i
            · obtain ⟨bb, o, s1, k1, t1, n1, op1, wn, wa, wb, wc, ns1, a1, b1, c1, f1, r1, rfl, hbo, hbl1, hbm, hbe, hfl, c0, hrest⟩ := bind_at (HK.out _ HBq.out).2.1 (i := j) (by omega)
              obtain ⟨bb2, o2, s2, k2, t2, n2, op2, wn2, wa2, wb2, wc2, ns2, a2, b2, c2, f2, r2, he2, _, _, _, hbe2, hfl2, d0, hrest2⟩ := bind_at (HK.out _ HBq.out).2.1 (i := i) hlt
              obtain ⟨rfl, rfl⟩ : bb = bb2 ∧ o = o2 := by simpa using he2
              have h1 : (bl bs)[j]? = some (s1, fun x => fvE x k1 t1 ns1 a1 b1 c1) := by rw [← hfl, hbe]; exact bl_at f1 r1 s1 k1 t1 n1 op1 ns1 a1 b1 c1
              have h2 : (bl bs)[i]? = some (s2, fun x => fvE x k2 t2 ns2 a2 b2 c2) := by rw [← hfl2, hbe2]; exact bl_at f2 r2 s2 k2 t2 n2 op2 ns2 a2 b2 c2
              have H12 := Lib.hid (And.intro h1 h2)
              have hjl' : (j : Int) < bs.len := by omega
              unfold maxLen at hbm
              clear hbe hfl hrest he2 hbe2 hfl2 hrest2 h1 h2
              by_cases hs12 : s1 = s2
              · have hq1 : (s1 == s2) = true := by simpa using hs12
                have hq2 : decide (s1 = s2) = true := decide_eq_true hs12
                clear hs12
                go_wp2_with fail
                go_quiet (fail)
                go_wp2_with fail
                refine (HA _).mono ?_
                rintro e w9 ⟨rfl, hb9⟩
                have HB9 := Lib.hid (blwS (below_old HBq.out) ⟨hb9.os, hb9.tape, hb9.output, hb9.size, hb9.block⟩ (below_old HBq.out).size)
                clear hb9
                go_wp2_with fail
                go_ret
                exact ⟨rfl, HB9.out⟩
              · have hq1 : (s1 == s2) = false := by simpa using hs12
                have hq2 : decide (s1 = s2) = false := decide_eq_false hs12
                go_wp2_with fail
                go_quiet (fail)
                go_wp2_with fail
                go_roundw
                case rel =>
                  refine ⟨j + 1, hjl, by go_num, below_same HBq.out rfl rfl rfl rfl, fun p x y hp hx hy => ?_⟩
                  by_cases hpj : p = j
                  · subst hpj
                    rw [H12.out.1] at hx
                    rw [H12.out.2] at hy
                    cases hx
                    cases hy
                    exact hs12
                  · exact HAj.out p x y (by omega) hx hy
                case measure => simp [intOf]; omega
            · obtain rfl : j = i := by omega
              go_wp2_with fail
              go_roundw
              case rel =>
                refine ⟨j + 1, hlt, by go_num, HBq.out, fun p q x y hpq hq hx hy => ?_⟩
                by_cases hqj : q = j
                · subst hqj
                  exact HAj.out p x y hpq hx hy
                · exact HAp.out p q x y hpq (by omega) hx hy
              case measure => simp [intOf]; omega
        · obtain rfl : i = bs.len := by omega
          have HApart := Lib.hid (show Apart (bl bs) from fun p q x y hpq hx hy => HAp.out p q x y hpq (by rw [← bl_len]; exact (List.getElem?_eq_some_iff.1 hy).1) hx hy)
          clear HAp
          clear HX
          obtain ⟨b0, b1, b2, b3, b4, b5, b6, b7⟩ := exBox_cell (Nat.lt_succ_self _) HBr.out
          obtain ⟨i0, hi0, hz0, hz1, hz2⟩ := info_of info_bind
          have hub : Try.prog.underlying 24 = some (.slice 35) := by kernel_rfl
          have HI := Lib.hid (And.intro hi0 (And.intro hz0 (And.intro hz1 hz2)))
          clear hi0 hz0 hz1 hz2
          go_wp2_with fail
          refine (live_any _ k s nn op _ _ _ _ ns a b c bs ao cap (HK.out _ HBr.out).1 (HK.out _ HBr.out).2.1 (by omega) HOk.out HOb.out).mono ?_
          rintro e w4 ⟨v4, xs, rfl, hrow, hpw, hmem, hb4⟩
          have HB4 := Lib.hid (blwS HBr.out hb4 (HK.out _ HBr.out).2.2)
          have hs4 := hb4.size
          obtain ⟨ad, g4, c4, rfl, had, hcell⟩ := is_form hrow
          have hxl : xs.length ≤ bs.len := nodup_len (lt_nodup hpw) (fun i hi => by have := rch_lt ((hmem i).1 hi); rwa [bl_len] at this)
          have HXs := Lib.hid (And.intro hpw (And.intro hmem (And.intro had hcell)))
          clear hb4 hrow had hcell hpw hmem b0 b1 b2 b3 b4 b5 b6 b7
          go_wp2_with fail
          go_loopw [8, 9] (fun u8 u9 wk => ∃ (j : Nat) (g : Fx) (cs : List Value), j ≤ xs.length ∧ u9 = .int .i64 j ∧ Below w4.heap.size w4 wk ∧ g.len = j ∧ BdRow (Old w4.heap.size) wk g cs ∧ wk.ownsRow w4.heap.size 35 9 u8 j cs ∧
            (∀ (t i : Nat), t < j → xs[t]? = some i → (bl g)[t]? = (bl bs)[i]?) ∧ OkB g) (fun _ u _ => xs.length - (intOf u).toNat)
          case atStart => exact ⟨0, .nil, [], Nat.zero_le _, rfl, Below.refl _ _, rfl, rfl, World.ownsRow_nil _ _ _ _, fun t i h => by omega, okb_nil⟩
          case round =>
            obtain ⟨j, g, cs, hj, rfl, hbk, hgl, hbd, hown, hsel, hokg⟩ := hrel
            have HBk := Lib.hid hbk
            have HG := Lib.hid (And.intro hbd (And.intro hown (And.intro hsel (And.intro hokg hgl))))
            have hsk := hbk.size
            clear hbk hbd hown hsel hokg hgl
            by_cases hjl : j < xs.length
            · obtain ⟨i, hxi⟩ : ∃ i, xs[j]? = some i := ⟨_, List.getElem?_eq_getElem hjl⟩
              have hxn : xs ≠ [] := fun h => by rw [h] at hjl; simp at hjl
              obtain ⟨rfl, hlc, hcm, hg4, hg4'⟩ := HXs.out.2.2.1 hxn
              have hin : i < bs.len := by
                have := rch_lt ((HXs.out.2.1 i).1 (List.mem_of_getElem? hxi))
                rwa [bl_len] at this
              have q0 : wr.cell? ⟨g4, j, none⟩ = some (.int .i64 (i : Nat)) := (HBk.out.cell (p := ⟨g4, j, none⟩) hg4').trans (HXs.out.2.2.2 j i hxi)
              have hkw : Keep (Old w.heap.size) (Old w4.heap.size) w wr := fun b hb => ⟨by have : b < w.heap.size := hb; have := (HK.out _ HB4.out).2.2; show b < w4.heap.size; omega, fun o => (HBk.out.cell (p := ⟨b, o, none⟩) (by have : b < w.heap.size := hb; have := (HK.out _ HB4.out).2.2; show b < w4.heap.size; omega)).trans ((below_old HB4.out).cell (p := ⟨b, o, none⟩) hb)⟩
              obtain ⟨bb, o, s1, k1, t1, n1, op1, wn, wa, wb, wc, ns1, a1, b1, c1, f1, r1, rfl, hbo, hbl1, hbm, hbe, hfl, d0, d1, d2, d3, d4, d5, d6, d7, d8, hex⟩ := bind_at (HV.out.keep hkw) (i := i) hin
              have h1 : (bl bs)[i]? = some (s1, fun x => fvE x k1 t1 ns1 a1 b1 c1) := by rw [← hfl, hbe]; exact bl_at f1 r1 s1 k1 t1 n1 op1 ns1 a1 b1 c1
              have hob1 := HOb.out _ _ _ _ _ _ _ _ _ _ _ hbe
              obtain ⟨yn, qn, rfl⟩ := hex.ns.slice
              obtain ⟨ya, qa, rfl⟩ := hex.a.slice
              obtain ⟨yb, qb, rfl⟩ := hex.b.slice
              obtain ⟨yc, qc, rfl⟩ := hex.c.slice
              have HNx := Lib.hid (And.intro h1 (And.intro hob1 (And.intro hex hxi)))
              have hil : (i : Int) < bs.len := by omega
              have hd1 : decide ((i : Int) ≥ bs.len) = false := decide_eq_false (by omega)
              have hd2 : decide ((bs.len : Int) ≤ i) = false := decide_eq_false (by omega)
              have hd3 : decide ((i : Int) < 0) = false := decide_eq_false (by omega)
              have hd9 : decide (bs.len ≤ i) = false := decide_eq_false (by omega)
              have hjl' : (j : Int) < xs.length := by omega
              have HO := Lib.hid HG.out.2.1
              unfold maxLen at hbm hcm
              clear hbe hfl h1 hob1 hex hkw
              by_cases hj0 : j = 0
              · have hd4 : decide ((j : Int) > 0) = false := decide_eq_false (by omega)
                have hd5 : decide ((0 : Int) < j) = false := decide_eq_false (by omega)
                have hd7 : decide (0 < j) = false := decide_eq_false (by omega)
                clear hxi hj0
                go_wp2_with fail
                go_quiet (fail)
                go_wp2_with (at_builtin; refine wpList_append_own_at _ rfl _ _ 24 rfl w4.heap.size 35 i0 _ 9 152 hub HI.out.1 HI.out.2.1 HI.out.2.2.1 HI.out.2.2.2 rfl (by decide) u8 j _ rfl (HO.out.kept (row := none) ⟨rfl, rfl, rfl, by simp, fun i hi _ => Below.heap_alloc _ _ _ hi⟩ (by cases hh : u8.ownBlock with | none => exact .inl rfl | some g => exact .inr (by simp))) ⟨wr.heap.size, 0, none⟩ 1 1 [.string (bt s1), .int .i64 k1, .string (bt t1), .int .i64 n1, .int .i64 op1, .slice yn ns1.length qn, .slice ya a1.len qa, .slice yb b1.len qb, .slice yc c1.len qc] rfl rfl (World.news_of_block (World.alloc_heap_new (wr.drewN (nq + 1)) _)) (by simp [Value.oneCell']) (by simp only [maxLen]; omega) (by omega) (by simp; omega) ?_; intro lv6 w6 hown6 hgrow _ hat6; have HN6 := Lib.hid (And.intro hown6 (And.intro hgrow hat6)); clear hown6 hgrow hat6)
                have hgr : wr.grownBy w6 u8.ownBlock := ⟨HN6.out.2.1.os, HN6.out.2.1.tape, HN6.out.2.1.output, by have := HN6.out.2.1.size; simp at this; omega, fun q hq hn => (HN6.out.2.1.block q (by simp; omega) hn).trans (Below.heap_alloc _ _ _ hq)⟩
                obtain ⟨g', cs', e1, e2, e3, e4, e5, e6⟩ := kept_step HBk.out HG.out.1 HG.out.2.1 HG.out.2.2.1 HG.out.2.2.2.1 HG.out.2.2.2.2 hgr HN6.out.1 HNx.out.1 HNx.out.2.1 HNx.out.2.2.1 HNx.out.2.2.2
                exact ⟨⟨j + 1, g', cs', hjl, by go_num, e1, e2, e3, e4, e5, e6⟩, by simp [intOf]; omega⟩
              · obtain ⟨jp, hjp⟩ : ∃ jp : Nat, jp + 1 = j := ⟨j - 1, by omega⟩
                obtain ⟨i1, hx1⟩ : ∃ i1, xs[jp]? = some i1 := ⟨_, List.getElem?_eq_getElem (by omega)⟩
                have hlt1 : i1 < i := by
                  have := List.pairwise_iff_getElem.1 HXs.out.1 jp j (by omega) hjl (by omega)
                  rwa [(List.getElem?_eq_some_iff.1 hx1).2, (List.getElem?_eq_some_iff.1 hxi).2] at this
                have q1 : wr.cell? ⟨g4, jp, none⟩ = some (.int .i64 (i1 : Nat)) := (HBk.out.cell (p := ⟨g4, jp, none⟩) hg4').trans (HXs.out.2.2.2 jp i1 hx1)
                have hd4 : decide ((j : Int) > 0) = true := decide_eq_true (by omega)
                have hd5 : decide ((0 : Int) < j) = true := decide_eq_true (by omega)
                have hd7 : decide (0 < j) = true := decide_eq_true (by omega)
                have hd8 : decide (i ≤ i1) = false := decide_eq_false (by omega)
                have hd6 : decide ((i : Int) ≤ i1) = false := decide_eq_false (by omega)
                have hwj : IntKind.i64.wrap ((j : Int) - 1) = (jp : Nat) := by rw [IntKind.wrap_i64]; omega
                have hjl2 : (jp : Int) < xs.length := by omega
                clear hxi hx1 hjp hj0
                go_wp2_with fail
                go_quiet (fail)
                go_wp2_with (at_builtin; refine wpList_append_own_at _ rfl _ _ 24 rfl w4.heap.size 35 i0 _ 9 152 hub HI.out.1 HI.out.2.1 HI.out.2.2.1 HI.out.2.2.2 rfl (by decide) u8 j _ rfl (HO.out.kept (row := none) ⟨rfl, rfl, rfl, by simp, fun i hi _ => Below.heap_alloc _ _ _ hi⟩ (by cases hh : u8.ownBlock with | none => exact .inl rfl | some g => exact .inr (by simp))) ⟨wr.heap.size, 0, none⟩ 1 1 [.string (bt s1), .int .i64 k1, .string (bt t1), .int .i64 n1, .int .i64 op1, .slice yn ns1.length qn, .slice ya a1.len qa, .slice yb b1.len qb, .slice yc c1.len qc] rfl rfl (World.news_of_block (World.alloc_heap_new (wr.drewN (nq + 1)) _)) (by simp [Value.oneCell']) (by simp only [maxLen]; omega) (by omega) (by simp; omega) ?_; intro lv6 w6 hown6 hgrow _ hat6; have HN6 := Lib.hid (And.intro hown6 (And.intro hgrow hat6)); clear hown6 hgrow hat6)
                have hgr : wr.grownBy w6 u8.ownBlock := ⟨HN6.out.2.1.os, HN6.out.2.1.tape, HN6.out.2.1.output, by have := HN6.out.2.1.size; simp at this; omega, fun q hq hn => (HN6.out.2.1.block q (by simp; omega) hn).trans (Below.heap_alloc _ _ _ hq)⟩
                obtain ⟨g', cs', e1, e2, e3, e4, e5, e6⟩ := kept_step HBk.out HG.out.1 HG.out.2.1 HG.out.2.2.1 HG.out.2.2.2.1 HG.out.2.2.2.2 hgr HN6.out.1 HNx.out.1 HNx.out.2.1 HNx.out.2.2.1 HNx.out.2.2.2
                exact ⟨⟨j + 1, g', cs', hjl, by go_num, e1, e2, e3, e4, e5, e6⟩, by simp [intOf]; omega⟩
            · obtain rfl : j = xs.length := by omega
              obtain ⟨ak, ck, rfl⟩ : ∃ a c, u8 = .slice a xs.length c := by
                rcases HG.out.2.1.2 with ⟨h, h0⟩ | ⟨g9, c9, _, h, _⟩
                · exact ⟨none, 0, by rw [h0]; exact h⟩
                · exact ⟨_, _, h⟩
              have HBw := Lib.hid (blwS HB4.out (HBk.out.mono (Nat.le_refl _)) (HK.out _ HB4.out).2.2)
              have hsel := HG.out.2.2.1
              have hgl := HG.out.2.2.2.2
              have hFx := BdRow.value (ok' := Old wr.heap.size) HG.out.1 HG.out.2.1 hgl.symm (fun b (hb : b < w4.heap.size) => (by show b < wr.heap.size; omega : Old wr.heap.size b)) (fun q hq => (HG.out.2.1.lt q hq).2)
              have hcon := live_any wr k s nn op _ _ _ _ ns a b c g ak ck (HK.out _ HBw.out).1 (by rw [hgl]; exact hFx) (by omega) HOk.out HG.out.2.2.2.1
              rw [hgl] at hcon
              have HC := Lib.hid hcon
              have HSel := Lib.hid (show ∀ (t i : Nat), xs[t]? = some i → (bl g)[t]? = (bl bs)[i]? from fun t i h => hsel t i (List.getElem?_eq_some_iff.1 h).1 h)
              have HGl := Lib.hid hgl
              obtain ⟨b0, b1, b2, b3, b4, b5, b6, b7⟩ := exBox_cell (Nat.lt_succ_self _) HBw.out
              clear hsel hgl hFx hcon
              go_wp2_with fail
              refine HC.out.mono ?_
              rintro e w5 ⟨v5, ys, rfl, hrow5, hpw5, hmem5, hb5⟩
              have hlen5 : ys.length = xs.length := kept_len HApart.out HXs.out.1 HXs.out.2.1 HSel.out (by rw [bl_len]; exact HGl.out) hpw5 hmem5
              obtain ⟨ad5, g5, c5, rfl, _, _⟩ := is_form hrow5
              rw [hlen5]
              have HB5 := Lib.hid (blwS HBw.out hb5 (HK.out _ HBw.out).2.2)
              clear hrow5 hpw5 hmem5 hb5 hlen5 b0 b1 b2 b3 b4 b5 b6 b7
              go_wp2_with fail
              refine (HA _).mono ?_
              rintro e w9 ⟨rfl, hb9⟩
              have HB9 := Lib.hid (blwS (below_old HB5.out) hb9 (below_old HB5.out).size)
              clear hb9
              go_wp2_with fail
              go_ret
              exact ⟨rfl, HB9.out⟩
end

section
open Go.ChangeShapes Go.WideShapes Go.ChangeAt Go.RowKit Go.Deep Ex0

theorem ns_len_wt (ns : List (List UInt8)) : ns.length ≤ nsWt ns := by
  induction ns with
  | nil => exact Nat.le_refl _
  | cons x r ih => simp only [nsWt, List.map_cons, List.sum_cons, List.length_cons] at ih ⊢; omega
theorem ns_mem_wt {ns : List (List UInt8)} : ∀ x ∈ ns, x.length ≤ nsWt ns := by
  induction ns with
  | nil => intro x hx; cases hx
  | cons y r ih =>
    intro x hx
    simp only [nsWt, List.map_cons, List.sum_cons] at ih ⊢
    rcases List.mem_cons.1 hx with rfl | hx
    · omega
    · have := ih x hx
      omega
theorem nm_wt : ∀ f : Fx, f.wt ≤ maxLen → nmF f = true := by
  intro f
  induction f with
  | nil => intro _; rfl
  | cons p k s n op ns a b c r iha ihb ihc ihr =>
    intro h
    simp only [Fx.wt] at h
    simp only [nmF, Bool.and_eq_true, List.all_eq_true, decide_eq_true_eq]
    refine ⟨⟨⟨⟨⟨⟨⟨by omega, fun x hx => by have := ns_mem_wt x hx; omega⟩, fun x hx => ?_⟩, fun x hx => ?_⟩, iha (by omega)⟩, ihb (by omega)⟩, ihc (by omega)⟩, ihr (by omega)⟩
    · cases p with
      | no => cases hx
      | bind s' => cases hx
      | alt k' s' n' ns' =>
        have := ns_mem_wt (ns := ns') x hx
        simp only [Pre.wt] at h
        omega
    · cases p with
      | no => cases hx
      | alt k' s' n' ns' => cases hx
      | bind s' =>
        simp only [bnames, List.mem_cons, List.not_mem_nil, or_false] at hx
        subst hx
        simp only [Pre.wt] at h
        omega
theorem bytes_wt : ∀ f : Fx, bytesF f + 72 * f.len + 16 * altNames (pres f) ≤ 32 * f.wt := by
  intro f
  induction f with
  | nil => exact Nat.le_refl _
  | cons p k s n op ns a b c r iha ihb ihc ihr =>
    have h1 := ns_len_wt ns
    simp only [Fx.wt, bytesF, Fx.len, pres, ownBytes, nameCnt]
    cases p with
    | no => simp only [altNames, Pre.wt] at *; omega
    | bind s' => simp only [altNames, Pre.wt] at *; omega
    | alt k' s' n' ns' =>
      have h2 := ns_len_wt ns'
      simp only [altNames, Pre.wt] at *
      omega
theorem okE_wt {s : List UInt8} {ns : List (List UInt8)} {a b c : Fx} (h : s.length + nsWt ns + a.wt + b.wt + c.wt + 9 ≤ 1048577) : OkE s ns a b c := by
  have hm : (1048577 : Nat) ≤ maxLen := by decide
  have h1 := a.count_wt9
  have h2 := b.count_wt9
  have h3 := c.count_wt9
  have h4 := costE_wt ns a b c
  have h5 := bytes_wt a
  have h6 := bytes_wt b
  have h7 := bytes_wt c
  have h8 := ns_len_wt ns
  refine ⟨?_, by omega, by rw [parts_count]; omega, by rw [bytes_parts]; unfold ownBytes nameCnt; omega⟩
  unfold nmE
  simp only [Bool.and_eq_true, List.all_eq_true, decide_eq_true_eq]
  exact ⟨⟨⟨⟨by omega, fun x hx => by have := ns_mem_wt x hx; omega⟩, nm_wt a (by omega)⟩, nm_wt b (by omega)⟩, nm_wt c (by omega)⟩
theorem okB_wt {f : Fx} (h : f.wt ≤ 1048576) : OkB f := by
  intro f1 s' k s n op ns a b c r e
  rw [e, Fx.wt_app] at h
  simp only [Fx.wt, Pre.wt] at h
  exact ⟨by have hm : (1048577 : Nat) ≤ maxLen := by decide
            omega, okE_wt (by omega)⟩

section
variable {H : Type} {enc : TypeId × Value → H} {W : World} {base : Nat}
set_option maxRecDepth 100000 in
/-- An expression, its own name too. -/
theorem open_exs {v : Value} {d : DataW H} {p : List MemPlace} (hv : Value.okWide Try.prog W .any base 27 v) (h : DataW.Trod enc Try.prog W 0 (fun _ => true) true 27 v d p) :
    ∃ (k : Int) (s : List UInt8) (n op : Int) (vn va vb vc : Value) (ns : List (List UInt8)) (a b c : Fx), v = exV k s n op vn va vb vc ∧ ExV (Old W.heap.size) W vn va vb vc ns a b c ∧ s.length + nsWt ns + a.wt + b.wt + c.wt + 9 ≤ Rows.uptoBulk d := by
  obtain ⟨cs, rfl, _⟩ := okWide_struct exProg.under hv
  obtain ⟨fuel, hf⟩ := h
  obtain ⟨k, s, n, op, vn, va, vb, vc, ns, a, b, c, e, hx, hw⟩ := ex_trod bulk_is exProg _ _ _ hf
  refine ⟨k, s, n, op, vn, va, vb, vc, ns, a, b, c, ?_, hx, hw⟩
  obtain ⟨l⟩ := cs
  simp only [Value.cells] at e
  unfold exV
  rw [e]
set_option maxRecDepth 100000 in
/-- The element of a row of binds. -/
theorem bd_trod {n : Nat} {b o : Nat} {cs : List Value} {y : DataW H × List MemPlace} (hcs : ∀ j, j < 1 + 8 → W.cell? ⟨b, o + j, none⟩ = cs[j]?) (hy : DataW.trod enc Try.prog W 0 (fun _ => true) true n 35 cs = some y) :
    ∃ e : Fx, e.len = 1 ∧ FxAt (Old W.heap.size) W 1 b o e ∧ e.wt ≤ Rows.uptoBulk y.1 := by
  obtain ⟨zs, m', rfl, hz, hzl, hzs, hzf⟩ := DataW.trod_struct exProg.underB hy
  rw [exProg.cellsB] at hzl
  rw [exProg.sizeB] at hzs
  match cs, hzl, zs, hzs, hz, hzf with
  | [c0, c1, c2, c3, c4, c5, c6, c7, c8], _, [z0, z1], _, hz, hzf =>
    obtain ⟨_, u0, t0⟩ := fldu (i := 0) (y := z0) (fun f hf => hzf 0 f hf) exProg.b0
    have t1 := fld (i := 1) (y := z1) (fun f hf => hzf 1 f hf) exProg.b1
    obtain ⟨s0, e0, d0, _⟩ := DataW.trod_string u0 t0
    obtain ⟨k, s, nn, op, vn, va, vb, vc, ns, f1, f2, f3, e1, hv, hw⟩ := ex_trod bulk_is exProg m' _ _ t1
    simp only [List.drop_zero, List.take_succ_cons, List.take_zero, List.cons.injEq, and_true] at e0
    simp only [List.drop_succ_cons, List.drop_zero, List.take_succ_cons, List.take_zero, List.cons.injEq, and_true] at e1
    subst e0
    obtain ⟨rfl, rfl, rfl, rfl, rfl, rfl, rfl, rfl⟩ := e1
    refine ⟨.cons (.bind s0.data.toList) k s nn op ns f1 f2 f3 .nil, rfl, fxAt_cons.2 ⟨⟨rfl, hcs 0 (by omega)⟩, ?_⟩, ?_⟩
    · exact ⟨hcs 1 (by omega), hcs 2 (by omega), hcs 3 (by omega), hcs 4 (by omega), ⟨_, _, _, _, hcs 5 (by omega), hcs 6 (by omega), hcs 7 (by omega), hcs 8 (by omega), hv⟩, trivial⟩
    · have h1 := (bulk_is (H := H)).agg [z0.1, z1.1]
      have h2 := (bulk_is (H := H)).str s0.data.toList
      rw [hz]
      simp only [List.map_cons, List.map_nil, List.sum_cons, List.sum_nil, d0, Fx.wt, Pre.wt] at h1 ⊢
      omega
set_option maxRecDepth 100000 in
/-- Binds. -/
theorem open_bds {v : Value} {d : DataW H} {p : List MemPlace} (hv : Value.okWide Try.prog W .any base 24 v) (h : DataW.Trod enc Try.prog W 0 (fun _ => true) true 24 v d p) :
    ∃ (f : Fx) (a : Option Addr) (cap : Nat), v = .slice a f.len cap ∧ FxV (Old W.heap.size) W 1 v f ∧ f.wt + 1 ≤ Rows.uptoBulk d := by
  obtain ⟨a, len, cap, rfl⟩ := okWide_slice exProg.sliceB hv
  obtain ⟨fuel, hf⟩ := h
  obtain ⟨f, hf1, hw⟩ := row_trod bulk_is (m := 1) exProg.sliceB exProg.cellsB (fun q _ b o cs y hcs hy => bd_trod hcs hy) hf
  obtain ⟨a', c', e⟩ := hf1.slice
  simp only [Value.slice.injEq] at e
  obtain ⟨rfl, rfl, rfl⟩ := e
  exact ⟨f, _, _, rfl, hf1, hw⟩
end
end
end Go.Proofs.Ytkdpojmbahjdjaa
