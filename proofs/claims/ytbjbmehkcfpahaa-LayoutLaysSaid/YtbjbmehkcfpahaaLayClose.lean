/- The contract of the object's close: what a closer ends. No condition but bounds on what is open and laid. -/
import Derived.Test.YtbjbmehkcfpahaaLayClA
import Derived.Test.YtbjbmehkcfpahaaLayClB
namespace Go.Proofs.Ytbjbmehkcfpahaa
open Go.RowKit Lx
attribute [local go_sem] bt_size bt_get bt_list bt_toList bt_drop bt_take fld0 fld1 fld2
attribute [local go_sem ↓] Go.wp_at_zero Go.wp_at_succ

theorem close_any (w : World) (s : St) (rs : List En) (out : List Rt) (t : Rt) (h : LayAt w s rs out) (hn : rs.length + out.length ≤ 9000000) (hclo : cloB t = true) :
    Calls Try.prog 62 #[.pointer (some ⟨s.g, 0, none⟩), tokV t] w fun e w' => LPost s w (closeL t rs).1 (out ++ (closeL t rs).2) (.returned (.tuple #[])) e w' := by
  cases h1 : (t.text == [105, 110]) with
  | true =>
    have e : t.text = [105, 110] := by simpa using h1
    exact close_I w s rs out t h hn hclo h1 (by rw [e]; rfl) (by rw [e]; rfl)
  | false =>
    cases h2 : (t.text == [44]) with
    | true =>
      have e : t.text = [44] := by simpa using h2
      exact close_M w s rs out t h hn hclo h1 h2 (by rw [e]; rfl)
    | false =>
      cases h3 : (t.text == [116, 104, 101, 110]) with
      | true => exact close_T w s rs out t h hn hclo h1 h2 h3
      | false => exact close_O w s rs out t h hn hclo h1 h2 h3
end Go.Proofs.Ytbjbmehkcfpahaa
