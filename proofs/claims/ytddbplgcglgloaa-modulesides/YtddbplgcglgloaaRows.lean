/-
  NARROWER THAN 'FOR EVERY INPUT', by the rows' own cells (each row's printed sentence says how): ModuleMore: loops · ModuleSides: loops · ModuleGoals: loops · ModuleNames: loops.
  DERIVED. THE GIVEN ROWS OF THIS SEAT. 4 by the template 'for every input the law returns true; each argument reads behind the call as it read before'; 0 by the template 'total and deterministic' (their statements: YtddbplgcglgloaaTotals.lean).
  GIVEN WITH THE SEED: the statements are not yours to turn. If you find one false, say at which input.
  Laid BY PROGRAM, IN A SANDBOX (cutbox-rows.mjs): the forced cells as the released guide's own fill.sh prints them over the translation a617a207563a2176… (all of the seat's roots in one cut). By AI agents, Wed Nov 11 2026. No macro, syntax, notation, axiom, sorry.
-/
import Derived.Test.YtddbplgcglgloaaChecked
import GoSem.Claim
import GoSem.ClaimJoined
import GoSem.ClaimMapViews
import Derived.JoinedTies
import Derived.KernelRfl
namespace Go.Proofs.Ytddbplgcglgloaa
/- THE CELL 'sum', in the pinned program and in every row, IS THE sha256 OF THE DUMP (.gsa) THAT YtddbplgcglgloaaProg.lean LOADS. Nothing in Lean hashes anything: it is a label: what it is worth is what the hold of that sum in a sandbox is worth. -/
noncomputable def Try.pinned : Pinned := { name := "ytddbplgcglgloaa", sum := "a617a207563a217603017a64026812eb9ac610135bffda14610e37b14b1a7b7a", checked := Try.checked }
namespace Rows
def none {H : Type} : Left H := { results := [], args := [] }

/-- 'parrylaw5.ModuleMore': WHATEVER THE INPUT: true; the input reads as it did. -/
def moduleMoreSpec : ChangeSpec := { name := "moduleMore", fn := fun _ => fun
  | [d1, d2, d3, d4] => { results := [.lit (.bool true)], args := [d1, d2, d3, d4] }
  | _ => none }
def moduleMoreRow : OpenClaim := { program := "ytddbplgcglgloaa", sum := "a617a207563a217603017a64026812eb9ac610135bffda14610e37b14b1a7b7a", func := "parry/parrylaw5.ModuleMore", spec := "moduleMore", unfollowed := true, recurses := true, loops := true, apart := false }
def ModuleMoreSaid : Prop := moduleMoreRow.holds Try.pinned (OpenSpec.ofChange moduleMoreSpec)

/-- ITS FALSE NEIGHBOUR: 'it returns false'. Refute it at one input. -/
def moduleMoreWrong : ChangeSpec := { name := "moduleMore", fn := fun _ => fun
  | [d1, d2, d3, d4] => { results := [.lit (.bool false)], args := [d1, d2, d3, d4] }
  | _ => none }
def ModuleMoreWrongFalsely : Prop := moduleMoreRow.holds Try.pinned (OpenSpec.ofChange moduleMoreWrong)

/-- 'parrylaw5.ModuleSides': WHATEVER THE INPUT: true; the input reads as it did. -/
def moduleSidesSpec : ChangeSpec := { name := "moduleSides", fn := fun _ => fun
  | [d1, d2, d3, d4] => { results := [.lit (.bool true)], args := [d1, d2, d3, d4] }
  | _ => none }
def moduleSidesRow : OpenClaim := { program := "ytddbplgcglgloaa", sum := "a617a207563a217603017a64026812eb9ac610135bffda14610e37b14b1a7b7a", func := "parry/parrylaw5.ModuleSides", spec := "moduleSides", unfollowed := true, recurses := true, loops := true, apart := false }
def ModuleSidesSaid : Prop := moduleSidesRow.holds Try.pinned (OpenSpec.ofChange moduleSidesSpec)

/-- ITS FALSE NEIGHBOUR: 'it returns false'. Refute it at one input. -/
def moduleSidesWrong : ChangeSpec := { name := "moduleSides", fn := fun _ => fun
  | [d1, d2, d3, d4] => { results := [.lit (.bool false)], args := [d1, d2, d3, d4] }
  | _ => none }
def ModuleSidesWrongFalsely : Prop := moduleSidesRow.holds Try.pinned (OpenSpec.ofChange moduleSidesWrong)

/-- 'parrylaw5.ModuleGoals': WHATEVER THE INPUT: true; the input reads as it did. -/
def moduleGoalsSpec : ChangeSpec := { name := "moduleGoals", fn := fun _ => fun
  | [d1, d2, d3] => { results := [.lit (.bool true)], args := [d1, d2, d3] }
  | _ => none }
def moduleGoalsRow : OpenClaim := { program := "ytddbplgcglgloaa", sum := "a617a207563a217603017a64026812eb9ac610135bffda14610e37b14b1a7b7a", func := "parry/parrylaw5.ModuleGoals", spec := "moduleGoals", unfollowed := true, recurses := true, loops := true, apart := false }
def ModuleGoalsSaid : Prop := moduleGoalsRow.holds Try.pinned (OpenSpec.ofChange moduleGoalsSpec)

/-- ITS FALSE NEIGHBOUR: 'it returns false'. Refute it at one input. -/
def moduleGoalsWrong : ChangeSpec := { name := "moduleGoals", fn := fun _ => fun
  | [d1, d2, d3] => { results := [.lit (.bool false)], args := [d1, d2, d3] }
  | _ => none }
def ModuleGoalsWrongFalsely : Prop := moduleGoalsRow.holds Try.pinned (OpenSpec.ofChange moduleGoalsWrong)

/-- 'parrylaw5.ModuleNames': WHATEVER THE INPUT: true; the input reads as it did. -/
def moduleNamesSpec : ChangeSpec := { name := "moduleNames", fn := fun _ => fun
  | [d1, d2] => { results := [.lit (.bool true)], args := [d1, d2] }
  | _ => none }
def moduleNamesRow : OpenClaim := { program := "ytddbplgcglgloaa", sum := "a617a207563a217603017a64026812eb9ac610135bffda14610e37b14b1a7b7a", func := "parry/parrylaw5.ModuleNames", spec := "moduleNames", unfollowed := true, recurses := true, loops := true, apart := false }
def ModuleNamesSaid : Prop := moduleNamesRow.holds Try.pinned (OpenSpec.ofChange moduleNamesSpec)

/-- ITS FALSE NEIGHBOUR: 'it returns false'. Refute it at one input. -/
def moduleNamesWrong : ChangeSpec := { name := "moduleNames", fn := fun _ => fun
  | [d1, d2] => { results := [.lit (.bool false)], args := [d1, d2] }
  | _ => none }
def ModuleNamesWrongFalsely : Prop := moduleNamesRow.holds Try.pinned (OpenSpec.ofChange moduleNamesWrong)

/- THE SECOND FORM. 'bulk': how many values and letters a reading holds, each counted each time it is reached (what is shared counts as often as it is met; a slice's spare places count too). A statement '..UptoSaid' is the law's where the arguments, and the package variables that the reading takes, are together of bulk at most 1048576: NARROWER than '..Said'. Prove '..Said' where nothing that the law and all that it calls make is longer than what came in: it says more and counts as full. Else prove '..UptoSaid'. A law counts once. -/
mutual
def uptoBulk {H : Type} : DataW H → Nat
  | .lit (.string bytes) => bytes.length + 1
  | .lit _ => 1
  | .nil => 1
  | .ptr d => uptoBulk d + 1
  | .slice elems spare => uptoBulkAll elems + uptoBulkAll spare + 1
  | .agg parts => uptoBulkAll parts + 1
  | .iface _ d => uptoBulk d + 1
  | .map entries => uptoBulkEntries entries + 1
  | .held _ => 1
def uptoBulkAll {H : Type} : List (DataW H) → Nat
  | [] => 0
  | d :: r => uptoBulk d + uptoBulkAll r
def uptoBulkEntries {H : Type} : List (Lit × DataW H) → Nat
  | [] => 0
  | x :: r => uptoBulkEntry x + uptoBulkEntries r
def uptoBulkEntry {H : Type} : Lit × DataW H → Nat
  | (.string bytes, d) => bytes.length + uptoBulk d + 1
  | (_, d) => uptoBulk d + 1
 end
def uptoSmall : (H : Type) → List (DataW H) → Bool := fun _ ds => decide (uptoBulkAll ds ≤ 1048576)
def OpenSpec.upto (s : _root_.Go.ChangeSpec) : _root_.Go.OpenSpec := { _root_.Go.OpenSpec.ofChange s with cond := some uptoSmall }

/-- 'parrylaw5.ModuleMore', WHERE WHAT IT READS IS OF BULK AT MOST 1048576: true; the input reads as it did. -/
def moduleMoreUptoRow : OpenClaim := { program := "ytddbplgcglgloaa", sum := "a617a207563a217603017a64026812eb9ac610135bffda14610e37b14b1a7b7a", func := "parry/parrylaw5.ModuleMore", spec := "moduleMore", unfollowed := true, recurses := true, loops := true, apart := false, narrowed := true }
def ModuleMoreUptoSaid : Prop := moduleMoreUptoRow.holds Try.pinned (OpenSpec.upto moduleMoreSpec)

/-- 'parrylaw5.ModuleSides', WHERE WHAT IT READS IS OF BULK AT MOST 1048576: true; the input reads as it did. -/
def moduleSidesUptoRow : OpenClaim := { program := "ytddbplgcglgloaa", sum := "a617a207563a217603017a64026812eb9ac610135bffda14610e37b14b1a7b7a", func := "parry/parrylaw5.ModuleSides", spec := "moduleSides", unfollowed := true, recurses := true, loops := true, apart := false, narrowed := true }
def ModuleSidesUptoSaid : Prop := moduleSidesUptoRow.holds Try.pinned (OpenSpec.upto moduleSidesSpec)

/-- 'parrylaw5.ModuleGoals', WHERE WHAT IT READS IS OF BULK AT MOST 1048576: true; the input reads as it did. -/
def moduleGoalsUptoRow : OpenClaim := { program := "ytddbplgcglgloaa", sum := "a617a207563a217603017a64026812eb9ac610135bffda14610e37b14b1a7b7a", func := "parry/parrylaw5.ModuleGoals", spec := "moduleGoals", unfollowed := true, recurses := true, loops := true, apart := false, narrowed := true }
def ModuleGoalsUptoSaid : Prop := moduleGoalsUptoRow.holds Try.pinned (OpenSpec.upto moduleGoalsSpec)

/-- 'parrylaw5.ModuleNames', WHERE WHAT IT READS IS OF BULK AT MOST 1048576: true; the input reads as it did. -/
def moduleNamesUptoRow : OpenClaim := { program := "ytddbplgcglgloaa", sum := "a617a207563a217603017a64026812eb9ac610135bffda14610e37b14b1a7b7a", func := "parry/parrylaw5.ModuleNames", spec := "moduleNames", unfollowed := true, recurses := true, loops := true, apart := false, narrowed := true }
def ModuleNamesUptoSaid : Prop := moduleNamesUptoRow.holds Try.pinned (OpenSpec.upto moduleNamesSpec)

end Rows
end Go.Proofs.Ytddbplgcglgloaa
