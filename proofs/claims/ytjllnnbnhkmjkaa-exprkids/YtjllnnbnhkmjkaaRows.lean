/-
  NARROWER THAN 'FOR EVERY INPUT', by the rows' own cells (each row's printed sentence says how): ExprForms: loops · ExprKids: loops · ExprSame: loops · ExprJoins: loops.
  DERIVED. THE GIVEN ROWS OF THIS SEAT. 6 by the template 'for every input the law returns true; each argument reads behind the call as it read before'; 0 by the template 'total and deterministic' (their statements: YtjllnnbnhkmjkaaTotals.lean).
  GIVEN WITH THE SEED: the statements are not yours to turn. If you find one false, say at which input.
  Laid BY PROGRAM, IN A SANDBOX (cutbox-rows.mjs): the forced cells as the released guide's own fill.sh prints them over the translation 1b465a316e6c1f12… (all of the seat's roots in one cut). By AI agents, Wed Nov 11 2026. No macro, syntax, notation, axiom, sorry.
-/
import Derived.Test.YtjllnnbnhkmjkaaChecked
import GoSem.Claim
import GoSem.ClaimJoined
import GoSem.ClaimMapViews
import Derived.JoinedTies
import Derived.KernelRfl
namespace Go.Proofs.Ytjllnnbnhkmjkaa
/- THE CELL 'sum', in the pinned program and in every row, IS THE sha256 OF THE DUMP (.gsa) THAT YtjllnnbnhkmjkaaProg.lean LOADS. Nothing in Lean hashes anything: it is a label: what it is worth is what the hold of that sum in a sandbox is worth. -/
noncomputable def Try.pinned : Pinned := { name := "ytjllnnbnhkmjkaa", sum := "1b465a316e6c1f128098297b4867d6bc1b313000b54cf34dddb0017b595fad16", checked := Try.checked }
namespace Rows
def none {H : Type} : Left H := { results := [], args := [] }

/-- 'parrylaw2.ExprForms': WHATEVER THE INPUT: true; the input reads as it did. -/
def exprFormsSpec : ChangeSpec := { name := "exprForms", fn := fun _ => fun
  | [d1, d2, d3] => { results := [.lit (.bool true)], args := [d1, d2, d3] }
  | _ => none }
def exprFormsRow : OpenClaim := { program := "ytjllnnbnhkmjkaa", sum := "1b465a316e6c1f128098297b4867d6bc1b313000b54cf34dddb0017b595fad16", func := "parry/parrylaw2.ExprForms", spec := "exprForms", recurses := true, loops := true, apart := false }
def ExprFormsSaid : Prop := exprFormsRow.holds Try.pinned (OpenSpec.ofChange exprFormsSpec)

/-- ITS FALSE NEIGHBOUR: 'it returns false'. Refute it at one input. -/
def exprFormsWrong : ChangeSpec := { name := "exprForms", fn := fun _ => fun
  | [d1, d2, d3] => { results := [.lit (.bool false)], args := [d1, d2, d3] }
  | _ => none }
def ExprFormsWrongFalsely : Prop := exprFormsRow.holds Try.pinned (OpenSpec.ofChange exprFormsWrong)

/-- 'parrylaw2.ExprKids': WHATEVER THE INPUT: true; the input reads as it did. -/
def exprKidsSpec : ChangeSpec := { name := "exprKids", fn := fun _ => fun
  | [d] => { results := [.lit (.bool true)], args := [d] }
  | _ => none }
def exprKidsRow : OpenClaim := { program := "ytjllnnbnhkmjkaa", sum := "1b465a316e6c1f128098297b4867d6bc1b313000b54cf34dddb0017b595fad16", func := "parry/parrylaw2.ExprKids", spec := "exprKids", recurses := true, loops := true, apart := false }
def ExprKidsSaid : Prop := exprKidsRow.holds Try.pinned (OpenSpec.ofChange exprKidsSpec)

/-- ITS FALSE NEIGHBOUR: 'it returns false'. Refute it at one input. -/
def exprKidsWrong : ChangeSpec := { name := "exprKids", fn := fun _ => fun
  | [d] => { results := [.lit (.bool false)], args := [d] }
  | _ => none }
def ExprKidsWrongFalsely : Prop := exprKidsRow.holds Try.pinned (OpenSpec.ofChange exprKidsWrong)

/-- 'parrylaw2.ExprDeep': WHATEVER THE INPUT: true; the input reads as it did. -/
def exprDeepSpec : ChangeSpec := { name := "exprDeep", fn := fun _ => fun
  | [d] => { results := [.lit (.bool true)], args := [d] }
  | _ => none }
def exprDeepRow : OpenClaim := { program := "ytjllnnbnhkmjkaa", sum := "1b465a316e6c1f128098297b4867d6bc1b313000b54cf34dddb0017b595fad16", func := "parry/parrylaw2.ExprDeep", spec := "exprDeep", recurses := true, apart := false }
def ExprDeepSaid : Prop := exprDeepRow.holds Try.pinned (OpenSpec.ofChange exprDeepSpec)

/-- ITS FALSE NEIGHBOUR: 'it returns false'. Refute it at one input. -/
def exprDeepWrong : ChangeSpec := { name := "exprDeep", fn := fun _ => fun
  | [d] => { results := [.lit (.bool false)], args := [d] }
  | _ => none }
def ExprDeepWrongFalsely : Prop := exprDeepRow.holds Try.pinned (OpenSpec.ofChange exprDeepWrong)

/-- 'parrylaw2.ExprSame': WHATEVER THE INPUT: true; the input reads as it did. -/
def exprSameSpec : ChangeSpec := { name := "exprSame", fn := fun _ => fun
  | [d1, d2, d3] => { results := [.lit (.bool true)], args := [d1, d2, d3] }
  | _ => none }
def exprSameRow : OpenClaim := { program := "ytjllnnbnhkmjkaa", sum := "1b465a316e6c1f128098297b4867d6bc1b313000b54cf34dddb0017b595fad16", func := "parry/parrylaw2.ExprSame", spec := "exprSame", recurses := true, loops := true, apart := false }
def ExprSameSaid : Prop := exprSameRow.holds Try.pinned (OpenSpec.ofChange exprSameSpec)

/-- ITS FALSE NEIGHBOUR: 'it returns false'. Refute it at one input. -/
def exprSameWrong : ChangeSpec := { name := "exprSame", fn := fun _ => fun
  | [d1, d2, d3] => { results := [.lit (.bool false)], args := [d1, d2, d3] }
  | _ => none }
def ExprSameWrongFalsely : Prop := exprSameRow.holds Try.pinned (OpenSpec.ofChange exprSameWrong)

/-- 'parrylaw2.ExprJoins': WHATEVER THE INPUT: true; the input reads as it did. -/
def exprJoinsSpec : ChangeSpec := { name := "exprJoins", fn := fun _ => fun
  | [d1, d2] => { results := [.lit (.bool true)], args := [d1, d2] }
  | _ => none }
def exprJoinsRow : OpenClaim := { program := "ytjllnnbnhkmjkaa", sum := "1b465a316e6c1f128098297b4867d6bc1b313000b54cf34dddb0017b595fad16", func := "parry/parrylaw2.ExprJoins", spec := "exprJoins", recurses := true, loops := true, apart := false }
def ExprJoinsSaid : Prop := exprJoinsRow.holds Try.pinned (OpenSpec.ofChange exprJoinsSpec)

/-- ITS FALSE NEIGHBOUR: 'it returns false'. Refute it at one input. -/
def exprJoinsWrong : ChangeSpec := { name := "exprJoins", fn := fun _ => fun
  | [d1, d2] => { results := [.lit (.bool false)], args := [d1, d2] }
  | _ => none }
def ExprJoinsWrongFalsely : Prop := exprJoinsRow.holds Try.pinned (OpenSpec.ofChange exprJoinsWrong)

/-- 'parrylaw2.ExprShapes': WHATEVER THE INPUT: true; the input reads as it did. -/
def exprShapesSpec : ChangeSpec := { name := "exprShapes", fn := fun _ => fun
  | [d1, d2, d3] => { results := [.lit (.bool true)], args := [d1, d2, d3] }
  | _ => none }
def exprShapesRow : OpenClaim := { program := "ytjllnnbnhkmjkaa", sum := "1b465a316e6c1f128098297b4867d6bc1b313000b54cf34dddb0017b595fad16", func := "parry/parrylaw2.ExprShapes", spec := "exprShapes", recurses := true, apart := false }
def ExprShapesSaid : Prop := exprShapesRow.holds Try.pinned (OpenSpec.ofChange exprShapesSpec)

/-- ITS FALSE NEIGHBOUR: 'it returns false'. Refute it at one input. -/
def exprShapesWrong : ChangeSpec := { name := "exprShapes", fn := fun _ => fun
  | [d1, d2, d3] => { results := [.lit (.bool false)], args := [d1, d2, d3] }
  | _ => none }
def ExprShapesWrongFalsely : Prop := exprShapesRow.holds Try.pinned (OpenSpec.ofChange exprShapesWrong)

/- THE SECOND FORM. 'bulk': how many values and letters a reading holds, each counted each time it is reached (what is shared counts as often as it is met; a slice's spare places count too). A statement '..UptoSaid' is the law's where the arguments, and the package variables that the reading takes, are together of bulk at most 1048576: NARROWER than '..Said'. Prove '..Said' where nothing that the law and all that it calls make is longer than what came in: it says more and counts as full. Else prove '..UptoSaid'. A law counts once. -/
mutual
def uptoBulk {H : Type} : DataW H → Nat
  | .lit (.string bytes) => bytes.length + 1
  | .lit _ => 1
  | .nil => 1
  | .ptr d => uptoBulk d + 1
  | .slice elems spare => uptoBulkAll elems + uptoBulkAll spare + 1
  | .agg parts => uptoBulkAll parts + 1
  | .iface _ d => uptoBulk d + 1
  | .map entries => uptoBulkEntries entries + 1
  | .held _ => 1
def uptoBulkAll {H : Type} : List (DataW H) → Nat
  | [] => 0
  | d :: r => uptoBulk d + uptoBulkAll r
def uptoBulkEntries {H : Type} : List (Lit × DataW H) → Nat
  | [] => 0
  | x :: r => uptoBulkEntry x + uptoBulkEntries r
def uptoBulkEntry {H : Type} : Lit × DataW H → Nat
  | (.string bytes, d) => bytes.length + uptoBulk d + 1
  | (_, d) => uptoBulk d + 1
 end
def uptoSmall : (H : Type) → List (DataW H) → Bool := fun _ ds => decide (uptoBulkAll ds ≤ 1048576)
def OpenSpec.upto (s : _root_.Go.ChangeSpec) : _root_.Go.OpenSpec := { _root_.Go.OpenSpec.ofChange s with cond := some uptoSmall }

/-- 'parrylaw2.ExprForms', WHERE WHAT IT READS IS OF BULK AT MOST 1048576: true; the input reads as it did. -/
def exprFormsUptoRow : OpenClaim := { program := "ytjllnnbnhkmjkaa", sum := "1b465a316e6c1f128098297b4867d6bc1b313000b54cf34dddb0017b595fad16", func := "parry/parrylaw2.ExprForms", spec := "exprForms", recurses := true, loops := true, apart := false, narrowed := true }
def ExprFormsUptoSaid : Prop := exprFormsUptoRow.holds Try.pinned (OpenSpec.upto exprFormsSpec)

/-- 'parrylaw2.ExprKids', WHERE WHAT IT READS IS OF BULK AT MOST 1048576: true; the input reads as it did. -/
def exprKidsUptoRow : OpenClaim := { program := "ytjllnnbnhkmjkaa", sum := "1b465a316e6c1f128098297b4867d6bc1b313000b54cf34dddb0017b595fad16", func := "parry/parrylaw2.ExprKids", spec := "exprKids", recurses := true, loops := true, apart := false, narrowed := true }
def ExprKidsUptoSaid : Prop := exprKidsUptoRow.holds Try.pinned (OpenSpec.upto exprKidsSpec)

/-- 'parrylaw2.ExprDeep', WHERE WHAT IT READS IS OF BULK AT MOST 1048576: true; the input reads as it did. -/
def exprDeepUptoRow : OpenClaim := { program := "ytjllnnbnhkmjkaa", sum := "1b465a316e6c1f128098297b4867d6bc1b313000b54cf34dddb0017b595fad16", func := "parry/parrylaw2.ExprDeep", spec := "exprDeep", recurses := true, apart := false, narrowed := true }
def ExprDeepUptoSaid : Prop := exprDeepUptoRow.holds Try.pinned (OpenSpec.upto exprDeepSpec)

/-- 'parrylaw2.ExprSame', WHERE WHAT IT READS IS OF BULK AT MOST 1048576: true; the input reads as it did. -/
def exprSameUptoRow : OpenClaim := { program := "ytjllnnbnhkmjkaa", sum := "1b465a316e6c1f128098297b4867d6bc1b313000b54cf34dddb0017b595fad16", func := "parry/parrylaw2.ExprSame", spec := "exprSame", recurses := true, loops := true, apart := false, narrowed := true }
def ExprSameUptoSaid : Prop := exprSameUptoRow.holds Try.pinned (OpenSpec.upto exprSameSpec)

/-- 'parrylaw2.ExprJoins', WHERE WHAT IT READS IS OF BULK AT MOST 1048576: true; the input reads as it did. -/
def exprJoinsUptoRow : OpenClaim := { program := "ytjllnnbnhkmjkaa", sum := "1b465a316e6c1f128098297b4867d6bc1b313000b54cf34dddb0017b595fad16", func := "parry/parrylaw2.ExprJoins", spec := "exprJoins", recurses := true, loops := true, apart := false, narrowed := true }
def ExprJoinsUptoSaid : Prop := exprJoinsUptoRow.holds Try.pinned (OpenSpec.upto exprJoinsSpec)

/-- 'parrylaw2.ExprShapes', WHERE WHAT IT READS IS OF BULK AT MOST 1048576: true; the input reads as it did. -/
def exprShapesUptoRow : OpenClaim := { program := "ytjllnnbnhkmjkaa", sum := "1b465a316e6c1f128098297b4867d6bc1b313000b54cf34dddb0017b595fad16", func := "parry/parrylaw2.ExprShapes", spec := "exprShapes", recurses := true, apart := false, narrowed := true }
def ExprShapesUptoSaid : Prop := exprShapesUptoRow.holds Try.pinned (OpenSpec.upto exprShapesSpec)

end Rows
end Go.Proofs.Ytjllnnbnhkmjkaa
