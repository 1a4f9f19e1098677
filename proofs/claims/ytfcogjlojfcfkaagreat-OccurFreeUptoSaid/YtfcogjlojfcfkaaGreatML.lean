/- The contract of the reference's shape. No condition but a bound on how many expressions there are. -/
import Derived.Test.YtfcogjlojfcfkaaGreatMC
import Derived.Test.YtfcogjlojfcfkaaGreatMD
import Derived.Test.YtfcogjlojfcfkaaGreatME
import Derived.Test.YtfcogjlojfcfkaaGreatMF
import Derived.Test.YtfcogjlojfcfkaaGreatMG
import Derived.Test.YtfcogjlojfcfkaaGreatMH
import Derived.Test.YtfcogjlojfcfkaaGreatMI
import Derived.Test.YtfcogjlojfcfkaaGreatMJ
import Derived.Test.YtfcogjlojfcfkaaGreatMK
namespace Go.Proofs.YtfcogjlojfcfkaaGreat
open Go.RowKit Ex0

theorem shape_any (n : Nat) : ShapeC n := by
  induction n with
  | zero => intro _ _ _ _ _ _ _ _ _ _ _ _ _ h; omega
  | succ n ih =>
    intro k s nn op vn va vb vc ns a b c w hn hb hv
    by_cases h : k < 1 ∨ 8 < k
    · exact shape_0 k h n s nn op vn va vb vc ns a b c w hn hb hv
    · rcases (show k = 1 ∨ k = 2 ∨ k = 3 ∨ k = 4 ∨ k = 5 ∨ k = 6 ∨ k = 7 ∨ k = 8 by omega) with h | h | h | h | h | h | h | h
      · exact shape_1 k h n ih s nn op vn va vb vc ns a b c w hn hb hv
      · exact shape_2 k h n ih s nn op vn va vb vc ns a b c w hn hb hv
      · exact shape_3 k h n ih s nn op vn va vb vc ns a b c w hn hb hv
      · exact shape_4 k h n ih s nn op vn va vb vc ns a b c w hn hb hv
      · exact shape_5 k h n ih s nn op vn va vb vc ns a b c w hn hb hv
      · exact shape_6 k h n ih s nn op vn va vb vc ns a b c w hn hb hv
      · exact shape_7 k h n ih s nn op vn va vb vc ns a b c w hn hb hv
      · exact shape_8 k h n ih s nn op vn va vb vc ns a b c w hn hb hv
end Go.Proofs.YtfcogjlojfcfkaaGreat
