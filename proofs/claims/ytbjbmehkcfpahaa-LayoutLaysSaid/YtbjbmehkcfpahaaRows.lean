/-
  No cell of these rows narrows 'for every input' (looked for: loops, veiled, ifaces, maps, wideKeys, modest, calm, conditions, laid).
  DERIVED. THE GIVEN ROWS OF THIS SEAT. 5 by the template 'for every input the law returns true; each argument reads behind the call as it read before'; 0 by the template 'total and deterministic' (their statements: YtbjbmehkcfpahaaTotals.lean).
  GIVEN WITH THE SEED: the statements are not yours to turn. If you find one false, say at which input.
  Laid BY PROGRAM, IN A SANDBOX (cutbox-rows.mjs): the forced cells as the released guide's own fill.sh prints them over the translation c51fb674cc2ec622… (all of the seat's roots in one cut). By AI agents, Wed Nov 11 2026. No macro, syntax, notation, axiom, sorry.
-/
import Derived.Test.YtbjbmehkcfpahaaChecked
import GoSem.Claim
import GoSem.ClaimJoined
import GoSem.ClaimMapViews
import Derived.JoinedTies
import Derived.KernelRfl
namespace Go.Proofs.Ytbjbmehkcfpahaa
/- THE CELL 'sum', in the pinned program and in every row, IS THE sha256 OF THE DUMP (.gsa) THAT YtbjbmehkcfpahaaProg.lean LOADS. Nothing in Lean hashes anything: it is a label: what it is worth is what the hold of that sum in a sandbox is worth. -/
noncomputable def Try.pinned : Pinned := { name := "ytbjbmehkcfpahaa", sum := "c51fb674cc2ec6222a204d0c94a83bde255af029c355db097187c0607d2156a9", checked := Try.checked }
namespace Rows
def none {H : Type} : Left H := { results := [], args := [] }

/-- 'teasellaw01.LexReads': WHATEVER THE INPUT: true; the input reads as it did. -/
def lexReadsSpec : ChangeSpec := { name := "lexReads", fn := fun _ => fun
  | [d] => { results := [.lit (.bool true)], args := [d] }
  | _ => none }
def lexReadsRow : OpenClaim := { program := "ytbjbmehkcfpahaa", sum := "c51fb674cc2ec6222a204d0c94a83bde255af029c355db097187c0607d2156a9", func := "teasel/teasellaw01.LexReads", spec := "lexReads", inPlace := ["internal/bytealg.IndexByteString", "internal/bytealg.CountString", "internal/bytealg.IndexString"], unfollowed := true, recurses := true, named := ["internal/bytealg.MaxLen"], apart := false }
def LexReadsSaid : Prop := lexReadsRow.holds Try.pinned (OpenSpec.ofChange lexReadsSpec)

/-- ITS FALSE NEIGHBOUR: 'it returns false'. Refute it at one input. -/
def lexReadsWrong : ChangeSpec := { name := "lexReads", fn := fun _ => fun
  | [d] => { results := [.lit (.bool false)], args := [d] }
  | _ => none }
def LexReadsWrongFalsely : Prop := lexReadsRow.holds Try.pinned (OpenSpec.ofChange lexReadsWrong)

/-- 'teasellaw02.LayoutLays': WHATEVER THE INPUT: true; the input reads as it did. -/
def layoutLaysSpec : ChangeSpec := { name := "layoutLays", fn := fun _ => fun
  | [d] => { results := [.lit (.bool true)], args := [d] }
  | _ => none }
def layoutLaysRow : OpenClaim := { program := "ytbjbmehkcfpahaa", sum := "c51fb674cc2ec6222a204d0c94a83bde255af029c355db097187c0607d2156a9", func := "teasel/teasellaw02.LayoutLays", spec := "layoutLays", apart := false }
def LayoutLaysSaid : Prop := layoutLaysRow.holds Try.pinned (OpenSpec.ofChange layoutLaysSpec)

/-- ITS FALSE NEIGHBOUR: 'it returns false'. Refute it at one input. -/
def layoutLaysWrong : ChangeSpec := { name := "layoutLays", fn := fun _ => fun
  | [d] => { results := [.lit (.bool false)], args := [d] }
  | _ => none }
def LayoutLaysWrongFalsely : Prop := layoutLaysRow.holds Try.pinned (OpenSpec.ofChange layoutLaysWrong)

/-- 'teasellaw02.LayoutKeeps': WHATEVER THE INPUT: true; the input reads as it did. -/
def layoutKeepsSpec : ChangeSpec := { name := "layoutKeeps", fn := fun _ => fun
  | [d] => { results := [.lit (.bool true)], args := [d] }
  | _ => none }
def layoutKeepsRow : OpenClaim := { program := "ytbjbmehkcfpahaa", sum := "c51fb674cc2ec6222a204d0c94a83bde255af029c355db097187c0607d2156a9", func := "teasel/teasellaw02.LayoutKeeps", spec := "layoutKeeps", apart := false }
def LayoutKeepsSaid : Prop := layoutKeepsRow.holds Try.pinned (OpenSpec.ofChange layoutKeepsSpec)

/-- ITS FALSE NEIGHBOUR: 'it returns false'. Refute it at one input. -/
def layoutKeepsWrong : ChangeSpec := { name := "layoutKeeps", fn := fun _ => fun
  | [d] => { results := [.lit (.bool false)], args := [d] }
  | _ => none }
def LayoutKeepsWrongFalsely : Prop := layoutKeepsRow.holds Try.pinned (OpenSpec.ofChange layoutKeepsWrong)

/-- 'teasellaw02.LayoutShifts': WHATEVER THE INPUT: true; the input reads as it did. -/
def layoutShiftsSpec : ChangeSpec := { name := "layoutShifts", fn := fun _ => fun
  | [d1, d2] => { results := [.lit (.bool true)], args := [d1, d2] }
  | _ => none }
def layoutShiftsRow : OpenClaim := { program := "ytbjbmehkcfpahaa", sum := "c51fb674cc2ec6222a204d0c94a83bde255af029c355db097187c0607d2156a9", func := "teasel/teasellaw02.LayoutShifts", spec := "layoutShifts", apart := false }
def LayoutShiftsSaid : Prop := layoutShiftsRow.holds Try.pinned (OpenSpec.ofChange layoutShiftsSpec)

/-- ITS FALSE NEIGHBOUR: 'it returns false'. Refute it at one input. -/
def layoutShiftsWrong : ChangeSpec := { name := "layoutShifts", fn := fun _ => fun
  | [d1, d2] => { results := [.lit (.bool false)], args := [d1, d2] }
  | _ => none }
def LayoutShiftsWrongFalsely : Prop := layoutShiftsRow.holds Try.pinned (OpenSpec.ofChange layoutShiftsWrong)

/-- 'teasellaw02.LayoutPlain': WHATEVER THE INPUT: true; the input reads as it did. -/
def layoutPlainSpec : ChangeSpec := { name := "layoutPlain", fn := fun _ => fun
  | [d] => { results := [.lit (.bool true)], args := [d] }
  | _ => none }
def layoutPlainRow : OpenClaim := { program := "ytbjbmehkcfpahaa", sum := "c51fb674cc2ec6222a204d0c94a83bde255af029c355db097187c0607d2156a9", func := "teasel/teasellaw02.LayoutPlain", spec := "layoutPlain", apart := false }
def LayoutPlainSaid : Prop := layoutPlainRow.holds Try.pinned (OpenSpec.ofChange layoutPlainSpec)

/-- ITS FALSE NEIGHBOUR: 'it returns false'. Refute it at one input. -/
def layoutPlainWrong : ChangeSpec := { name := "layoutPlain", fn := fun _ => fun
  | [d] => { results := [.lit (.bool false)], args := [d] }
  | _ => none }
def LayoutPlainWrongFalsely : Prop := layoutPlainRow.holds Try.pinned (OpenSpec.ofChange layoutPlainWrong)

/- THE SECOND FORM. 'bulk': how many values and letters a reading holds, each counted each time it is reached (what is shared counts as often as it is met; a slice's spare places count too). A statement '..UptoSaid' is the law's where the arguments, and the package variables that the reading takes, are together of bulk at most 1048576: NARROWER than '..Said'. Prove '..Said' where nothing that the law and all that it calls make is longer than what came in: it says more and counts as full. Else prove '..UptoSaid'. A law counts once. -/
mutual
def uptoBulk {H : Type} : DataW H → Nat
  | .lit (.string bytes) => bytes.length + 1
  | .lit _ => 1
  | .nil => 1
  | .ptr d => uptoBulk d + 1
  | .slice elems spare => uptoBulkAll elems + uptoBulkAll spare + 1
  | .agg parts => uptoBulkAll parts + 1
  | .iface _ d => uptoBulk d + 1
  | .map entries => uptoBulkEntries entries + 1
  | .held _ => 1
def uptoBulkAll {H : Type} : List (DataW H) → Nat
  | [] => 0
  | d :: r => uptoBulk d + uptoBulkAll r
def uptoBulkEntries {H : Type} : List (Lit × DataW H) → Nat
  | [] => 0
  | x :: r => uptoBulkEntry x + uptoBulkEntries r
def uptoBulkEntry {H : Type} : Lit × DataW H → Nat
  | (.string bytes, d) => bytes.length + uptoBulk d + 1
  | (_, d) => uptoBulk d + 1
 end
def uptoSmall : (H : Type) → List (DataW H) → Bool := fun _ ds => decide (uptoBulkAll ds ≤ 1048576)
def OpenSpec.upto (s : _root_.Go.ChangeSpec) : _root_.Go.OpenSpec := { _root_.Go.OpenSpec.ofChange s with cond := some uptoSmall }

/-- 'teasellaw01.LexReads', WHERE WHAT IT READS IS OF BULK AT MOST 1048576: true; the input reads as it did. -/
def lexReadsUptoRow : OpenClaim := { program := "ytbjbmehkcfpahaa", sum := "c51fb674cc2ec6222a204d0c94a83bde255af029c355db097187c0607d2156a9", func := "teasel/teasellaw01.LexReads", spec := "lexReads", inPlace := ["internal/bytealg.IndexByteString", "internal/bytealg.CountString", "internal/bytealg.IndexString"], unfollowed := true, recurses := true, named := ["internal/bytealg.MaxLen"], apart := false, narrowed := true }
def LexReadsUptoSaid : Prop := lexReadsUptoRow.holds Try.pinned (OpenSpec.upto lexReadsSpec)

/-- 'teasellaw02.LayoutLays', WHERE WHAT IT READS IS OF BULK AT MOST 1048576: true; the input reads as it did. -/
def layoutLaysUptoRow : OpenClaim := { program := "ytbjbmehkcfpahaa", sum := "c51fb674cc2ec6222a204d0c94a83bde255af029c355db097187c0607d2156a9", func := "teasel/teasellaw02.LayoutLays", spec := "layoutLays", apart := false, narrowed := true }
def LayoutLaysUptoSaid : Prop := layoutLaysUptoRow.holds Try.pinned (OpenSpec.upto layoutLaysSpec)

/-- 'teasellaw02.LayoutKeeps', WHERE WHAT IT READS IS OF BULK AT MOST 1048576: true; the input reads as it did. -/
def layoutKeepsUptoRow : OpenClaim := { program := "ytbjbmehkcfpahaa", sum := "c51fb674cc2ec6222a204d0c94a83bde255af029c355db097187c0607d2156a9", func := "teasel/teasellaw02.LayoutKeeps", spec := "layoutKeeps", apart := false, narrowed := true }
def LayoutKeepsUptoSaid : Prop := layoutKeepsUptoRow.holds Try.pinned (OpenSpec.upto layoutKeepsSpec)

/-- 'teasellaw02.LayoutShifts', WHERE WHAT IT READS IS OF BULK AT MOST 1048576: true; the input reads as it did. -/
def layoutShiftsUptoRow : OpenClaim := { program := "ytbjbmehkcfpahaa", sum := "c51fb674cc2ec6222a204d0c94a83bde255af029c355db097187c0607d2156a9", func := "teasel/teasellaw02.LayoutShifts", spec := "layoutShifts", apart := false, narrowed := true }
def LayoutShiftsUptoSaid : Prop := layoutShiftsUptoRow.holds Try.pinned (OpenSpec.upto layoutShiftsSpec)

/-- 'teasellaw02.LayoutPlain', WHERE WHAT IT READS IS OF BULK AT MOST 1048576: true; the input reads as it did. -/
def layoutPlainUptoRow : OpenClaim := { program := "ytbjbmehkcfpahaa", sum := "c51fb674cc2ec6222a204d0c94a83bde255af029c355db097187c0607d2156a9", func := "teasel/teasellaw02.LayoutPlain", spec := "layoutPlain", apart := false, narrowed := true }
def LayoutPlainUptoSaid : Prop := layoutPlainUptoRow.holds Try.pinned (OpenSpec.upto layoutPlainSpec)

end Rows
end Go.Proofs.Ytbjbmehkcfpahaa
