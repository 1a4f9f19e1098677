/- The contract of the stack's push. No condition but bounds on what is open. -/
import Derived.Test.YtbjbmehkcfpahaaLayPuA
namespace Go.Proofs.Ytbjbmehkcfpahaa
open Go.RowKit Lx
attribute [local go_sem] bt_size bt_get bt_list bt_toList bt_drop bt_take
attribute [local go_sem ↓] Go.wp_at_zero Go.wp_at_succ

theorem push_any (w : World) (s : St) (rs : List En) (out : List Rt) (e : En) (h : LayAt w s rs out) (hn : rs.length ≤ 10000000) :
    Calls Try.prog 56 #[.pointer (some ⟨s.g, 0, none⟩), enV e] w fun x w' => LPost s w (e :: rs) out (.returned (.tuple #[])) x w' := by
  cases e with
  | blk c => exact push_blk w s rs out c h hn
  | brc => exact push_brc w s rs out h hn
  | mk m =>
    by_cases hm : m = .lt
    · subst hm
      exact push_lt w s rs out h hn
    · exact push_mk w s rs out m hm h hn
end Go.Proofs.Ytbjbmehkcfpahaa
