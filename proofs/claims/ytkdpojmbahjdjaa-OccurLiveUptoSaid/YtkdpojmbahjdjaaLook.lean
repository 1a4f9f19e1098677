/- A look-up among no notes; the iterator's maker. No condition. -/
import Derived.Test.YtkdpojmbahjdjaaCtr
import Derived.Carry
import Derived.Maps.OwnSet
namespace Go.Proofs.Ytkdpojmbahjdjaa
open Go.RowKit Ex0

theorem under_notes : ∃ u, Try.prog.underlying 61 = some (.pointer u) := ⟨27, by kernel_rfl⟩
theorem under_known : Try.prog.underlying 55 = some (.map 61 59) := by kernel_rfl
theorem look_none (W : World) (kb : Nat) (ad : Option Addr) (h : W.heap[kb]? = some (.map #[] 0)) :
    (Instr.lookup 55 (.map (some kb)) (.pointer ad) true).run Try.prog W = .ok (.tuple #[.agg #[.int .i64 0, .bool false], .bool false]) W := by
  obtain ⟨u, hu⟩ := under_notes
  have hz := Try.zeroValue59 W
  have hc : (Instr.checkKey true 10000 61 (.pointer ad)).run Try.prog W = .ok () W := by
    show (Instr.checkKey true (9999 + 1) 61 (.pointer ad)).run Try.prog W = .ok () W
    unfold Instr.checkKey
    simp [run_underlying hu, Result.andThen]
  have hf : (Instr.findKey 61 (.pointer ad) []).run Try.prog W = .ok none W := by
    unfold Instr.findKey
    simp [run_underlying hu, Instr.findNow, Result.andThen]
  unfold Instr.lookup
  simp [run_underlying under_known, MapKept.run_getObj_map h, hc, hf, hz, Result.andThen]
theorem iparts_any (p1 p2 : Option Addr) (w : World) : Calls Try.prog 27 #[.pointer p1, .pointer p2] w fun e w' =>
    ∃ b1 b2, e = .returned (.func (.func 43) #[] #[.pointer (some ⟨b1, 0, none⟩), .pointer (some ⟨b2, 0, none⟩)]) ∧ w.heap.size ≤ b1 ∧ w.heap.size ≤ b2 ∧ b1 < w'.heap.size ∧ b2 < w'.heap.size ∧
      w'.cell? ⟨b1, 0, none⟩ = some (.pointer p1) ∧ w'.cell? ⟨b2, 0, none⟩ = some (.pointer p2) ∧ Below w.heap.size w w' := by
  go_enter Try.func27, Try.ntmps27
  go_wp2_with fail
  go_ret
  exact ⟨_, _, rfl, Nat.le_refl _, by omega, by simp; omega, by simp, by simp [go_sem], by simp [go_sem], ((Below.refl _ _).alloc (Nat.le_refl _) _).alloc (by simp) _⟩
end Go.Proofs.Ytkdpojmbahjdjaa
