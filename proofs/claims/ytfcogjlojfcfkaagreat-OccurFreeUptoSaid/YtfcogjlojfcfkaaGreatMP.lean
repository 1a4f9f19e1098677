/- A range over a function whose iterator and whose rounds write the same cells: the caller's state goes through both. No condition. -/
import Derived.RangeFuncNested
import Derived.RangeFuncCalls
import Derived.RangeFuncLeaves
import Derived.WalkKit
namespace Go.Proofs.YtfcogjlojfcfkaaGreat
open Go Go.RowKit

/-- How a round's body is left: always at its end, in a next state. -/
def roundEnd {σ : Type} (B : Nat) (J : σ → World → Prop) (nx : σ → Prop) (W : World) : Exit → Act → World → Prop
  | .normal, _, W' => KeepsFrom B W W' ∧ ∃ s', nx s' ∧ J s' W'
  | _, _, _ => False

theorem range_st {σ α : Type} {P : Program} {g : Operand} {ps : Array Tmp} {assign body : Code} {Q : Exit → Act → World → Prop} {a : Act} {w : World} {gf : Nat} {lb : Array Value}
    (hg : a.eval g = .func (.func gf) #[] lb) (eg : ∀ args w, (callFunc gf args).run P w = .ok (.enter gf args) w) {encs : α → Array Value} (hps : ∀ x, (encs x).size = ps.size)
    (J : σ → World → Prop) (ok : σ → α → Prop) (nx : σ → α → σ → Prop) (done : σ → Prop) (s0 : σ) (hJ : OwnFrom w.heap.size J) (h0 : J s0 w)
    (hseq : ∀ (l : Nat) (K : World → Prop) (W1 : World), (∀ W W', K W → KeepsFrom w.heap.size W W' → K W') → w.heap.size ≤ W1.heap.size → J s0 W1 → K W1 →
      (∀ s x W, J s W → K W → ok s x → YieldAt Fence.wide 2 P l (encs x) W fun e W' => e = .returned (.bool true) ∧ ∃ s', nx s x s' ∧ J s' W' ∧ K W') →
      CallsIn Fence.wide 3 P gf (#[.func (.yield l) #[] #[]] ++ lb) W1 fun e W' => (∃ v, e = .returned v) ∧ ∃ s, done s ∧ J s W' ∧ K W')
    (a₁ : α → Act)
    (hassign : ∀ (l : Nat) (x : α) (W : World) (K : Act → World → Prop), K (a₁ x) W →
      assign.wpIn (Fence.wide.inRound l) 2 P (Exit.then K (fun _ _ _ => False)) { tmps := (ps.zip (encs x)).foldl (fun t (p, v) => t.setIfInBounds p v) a.tmps, defers := [] } W)
    (hbody : ∀ (l : Nat) (s : σ) (x : α) (W : World), J s W → ok s x → body.wpIn (Fence.wide.inRound l) 2 P (roundEnd w.heap.size J (nx s x) W) (a₁ x) W)
    (hdone : ∀ (D : Nat) (s : σ) (W : World), w.heap.size ≤ D → done s → J s W → W.heap[D]? = some (.deferred (some [])) → Q .normal { a with defers := { target := .collected D, args := #[] } :: a.defers } W) :
    (Code.rangeFunc g ps assign body).wp P Q a w := by
  refine (wpIn_wide (n := 4)).1 (wpIn_rangeFunc fun fn hfn => ?_)
  obtain ⟨mk, hmk⟩ : ∃ mk : LoopState → Loop, mk = fun st => { state := st, pending := none, fn, tmps := a.tmps, params := ps, assign, body, defers := w.heap.size } := ⟨_, rfl⟩
  obtain ⟨V, hV⟩ : ∃ V, (w.alloc (.deferred (some []))).alloc (.loop (mk .ready)) = V := ⟨_, rfl⟩
  have hsz : V.heap.size = w.heap.size + 2 := by rw [← hV]; simp
  have hl : V.heap[w.heap.size + 1]? = some (.loop (mk .ready)) := by
    rw [← hV]
    have := World.alloc_heap_new (w.alloc (.deferred (some []))) (.loop (mk .ready))
    rwa [World.size_alloc] at this
  have hd : V.heap[w.heap.size]? = some (.deferred (some [])) := by
    rw [← hV]
    exact (Below.heap_alloc _ _ _ (by simp)).trans (World.alloc_heap_new w _)
  have hj : J s0 V := by rw [← hV]; exact hJ.alloc _ (hJ.alloc _ h0)
  refine ⟨w.heap.size + 1, [{ target := .collected w.heap.size, args := #[] }], V, { target := .fn (.func gf) lb, args := #[.func (.yield (w.heap.size + 1)) #[] #[]] }, V, gf,
    #[.func (.yield (w.heap.size + 1)) #[] #[]] ++ lb, V, ?_, ?_, fun _ _ => trivial, ?_, fun _ => by decide, ?_⟩
  · rw [← hV, hmk]; exact run_enterLoop_outer _ _ _ _ _
  · simp only [resolve, hg]
    simp [go_sem]
  · simp [invoke, go_sem, eg]
  refine (hseq (w.heap.size + 1) (fun W => W.heap[w.heap.size + 1]? = some (.loop (mk .ready)) ∧ W.heap[w.heap.size]? = some (.deferred (some []))) V
    (fun W W' h k => ⟨k.same _ _ (by omega) h.1 rfl, k.same _ _ (Nat.le_refl _) h.2 rfl⟩) (by omega) hj ⟨hl, hd⟩ ?_).mono ?_
  · rintro s x W hs ⟨hl, hd⟩ hok
    have hlt : w.heap.size + 1 < W.heap.size := (Array.getElem?_eq_some_iff.1 hl).1
    have hy := run_yield (P := P) (args := encs x) hl (by rw [hmk]; exact hps x)
    rw [hmk] at hy
    refine ⟨fn, _, assign, body, hy, roundIn_of_wpIn hfn (hassign _ x W _ ⟨_, run_beginRound hl (by rw [hmk]), ?_⟩)⟩
    clear hy
    have hl2 : (W.putObj (w.heap.size + 1) (.loop { mk .ready with state := .busy })).heap[w.heap.size + 1]? = some (.loop { mk .ready with state := .busy }) := World.putObj_heap_same hlt
    have hd2 : (W.putObj (w.heap.size + 1) (.loop { mk .ready with state := .busy })).heap[w.heap.size]? = some (.deferred (some [])) := (World.putObj_heap_other (by omega)).trans hd
    refine wpIn_mono (hbody _ s x _ (hJ.putObj _ hs (by omega) hl rfl) hok) ?_
    rintro e a3 W3 hp
    cases e with
    | normal =>
      obtain ⟨k3, s', hn, hj3⟩ := hp
      have hl3 := k3.same _ _ (by omega) hl2 rfl
      have hd3 := k3.same _ _ (Nat.le_refl _) hd2 rfl
      have hr := run_endRound (P := P) none hl3
      rw [hmk] at hr hl3
      refine ⟨_, _, hr, rfl, s', hn, hJ.putObj _ hj3 (by omega) hl3 rfl, ?_, (World.putObj_heap_other (by omega)).trans hd3⟩
      rw [hmk]
      exact World.putObj_heap_same (Array.getElem?_eq_some_iff.1 hl3).1
    | ret => exact hp.elim
    | exit id => exact hp.elim
    | goto t => exact hp.elim
    | panic ch => exact hp.elim
    | outgrown => exact hp.elim
  · rintro e W2 ⟨⟨v, rfl⟩, s, hs, hj2, hl2, hd2⟩
    have hr := run_endLoop (P := P) hl2 (by rw [hmk]; simp)
    rw [hmk] at hr
    exact ⟨none, _, hr, hdone _ s _ (Nat.le_refl _) hs (hJ.putObj _ hj2 (by omega) hl2 rfl) ((World.putObj_heap_other (by omega)).trans hd2)⟩
end Go.Proofs.YtfcogjlojfcfkaaGreat
