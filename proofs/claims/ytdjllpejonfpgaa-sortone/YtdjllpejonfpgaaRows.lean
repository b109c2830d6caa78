/-
  NARROWER THAN 'FOR EVERY INPUT', by the rows' own cells (each row's printed sentence says how): SortForms: loops · SortOne: loops · SortNeeds: loops · SortKinds: loops.
  DERIVED. THE GIVEN ROWS OF THIS SEAT. 4 by the template 'for every input the law returns true; each argument reads behind the call as it read before'; 0 by the template 'total and deterministic' (their statements: YtdjllpejonfpgaaTotals.lean).
  GIVEN WITH THE SEED: the statements are not yours to turn. If you find one false, say at which input.
  Laid BY PROGRAM, IN A SANDBOX (cutbox-rows.mjs): the forced cells as the released guide's own fill.sh prints them over the translation 2480a16bfd82cd3f… (all of the seat's roots in one cut). By AI agents, Wed Nov 11 2026. No macro, syntax, notation, axiom, sorry.
-/
import Derived.Test.YtdjllpejonfpgaaChecked
import GoSem.Claim
import GoSem.ClaimJoined
import GoSem.ClaimMapViews
import Derived.JoinedTies
import Derived.KernelRfl
namespace Go.Proofs.Ytdjllpejonfpgaa
/- THE CELL 'sum', in the pinned program and in every row, IS THE sha256 OF THE DUMP (.gsa) THAT YtdjllpejonfpgaaProg.lean LOADS. Nothing in Lean hashes anything: it is a label: what it is worth is what the hold of that sum in a sandbox is worth. -/
noncomputable def Try.pinned : Pinned := { name := "ytdjllpejonfpgaa", sum := "2480a16bfd82cd3f620ad47335623920145cb52a8209872730ed7f3974da3308", checked := Try.checked }
namespace Rows
def none {H : Type} : Left H := { results := [], args := [] }

/-- 'parrylaw3.SortForms': WHATEVER THE INPUT: true; the input reads as it did. -/
def sortFormsSpec : ChangeSpec := { name := "sortForms", fn := fun _ => fun
  | [d1, d2, d3, d4, d5, d6] => { results := [.lit (.bool true)], args := [d1, d2, d3, d4, d5, d6] }
  | _ => none }
def sortFormsRow : OpenClaim := { program := "ytdjllpejonfpgaa", sum := "2480a16bfd82cd3f620ad47335623920145cb52a8209872730ed7f3974da3308", func := "parry/parrylaw3.SortForms", spec := "sortForms", recurses := true, loops := true, apart := false }
def SortFormsSaid : Prop := sortFormsRow.holds Try.pinned (OpenSpec.ofChange sortFormsSpec)

/-- ITS FALSE NEIGHBOUR: 'it returns false'. Refute it at one input. -/
def sortFormsWrong : ChangeSpec := { name := "sortForms", fn := fun _ => fun
  | [d1, d2, d3, d4, d5, d6] => { results := [.lit (.bool false)], args := [d1, d2, d3, d4, d5, d6] }
  | _ => none }
def SortFormsWrongFalsely : Prop := sortFormsRow.holds Try.pinned (OpenSpec.ofChange sortFormsWrong)

/-- 'parrylaw3.SortOne': WHATEVER THE INPUT: true; the input reads as it did. -/
def sortOneSpec : ChangeSpec := { name := "sortOne", fn := fun _ => fun
  | [d1, d2] => { results := [.lit (.bool true)], args := [d1, d2] }
  | _ => none }
def sortOneRow : OpenClaim := { program := "ytdjllpejonfpgaa", sum := "2480a16bfd82cd3f620ad47335623920145cb52a8209872730ed7f3974da3308", func := "parry/parrylaw3.SortOne", spec := "sortOne", recurses := true, loops := true, apart := false }
def SortOneSaid : Prop := sortOneRow.holds Try.pinned (OpenSpec.ofChange sortOneSpec)

/-- ITS FALSE NEIGHBOUR: 'it returns false'. Refute it at one input. -/
def sortOneWrong : ChangeSpec := { name := "sortOne", fn := fun _ => fun
  | [d1, d2] => { results := [.lit (.bool false)], args := [d1, d2] }
  | _ => none }
def SortOneWrongFalsely : Prop := sortOneRow.holds Try.pinned (OpenSpec.ofChange sortOneWrong)

/-- 'parrylaw3.SortNeeds': WHATEVER THE INPUT: true; the input reads as it did. -/
def sortNeedsSpec : ChangeSpec := { name := "sortNeeds", fn := fun _ => fun
  | [d1, d2, d3, d4, d5, d6] => { results := [.lit (.bool true)], args := [d1, d2, d3, d4, d5, d6] }
  | _ => none }
def sortNeedsRow : OpenClaim := { program := "ytdjllpejonfpgaa", sum := "2480a16bfd82cd3f620ad47335623920145cb52a8209872730ed7f3974da3308", func := "parry/parrylaw3.SortNeeds", spec := "sortNeeds", recurses := true, loops := true, apart := false }
def SortNeedsSaid : Prop := sortNeedsRow.holds Try.pinned (OpenSpec.ofChange sortNeedsSpec)

/-- ITS FALSE NEIGHBOUR: 'it returns false'. Refute it at one input. -/
def sortNeedsWrong : ChangeSpec := { name := "sortNeeds", fn := fun _ => fun
  | [d1, d2, d3, d4, d5, d6] => { results := [.lit (.bool false)], args := [d1, d2, d3, d4, d5, d6] }
  | _ => none }
def SortNeedsWrongFalsely : Prop := sortNeedsRow.holds Try.pinned (OpenSpec.ofChange sortNeedsWrong)

/-- 'parrylaw3.SortKinds': WHATEVER THE INPUT: true; the input reads as it did. -/
def sortKindsSpec : ChangeSpec := { name := "sortKinds", fn := fun _ => fun
  | [d1, d2, d3, d4] => { results := [.lit (.bool true)], args := [d1, d2, d3, d4] }
  | _ => none }
def sortKindsRow : OpenClaim := { program := "ytdjllpejonfpgaa", sum := "2480a16bfd82cd3f620ad47335623920145cb52a8209872730ed7f3974da3308", func := "parry/parrylaw3.SortKinds", spec := "sortKinds", recurses := true, loops := true, apart := false }
def SortKindsSaid : Prop := sortKindsRow.holds Try.pinned (OpenSpec.ofChange sortKindsSpec)

/-- ITS FALSE NEIGHBOUR: 'it returns false'. Refute it at one input. -/
def sortKindsWrong : ChangeSpec := { name := "sortKinds", fn := fun _ => fun
  | [d1, d2, d3, d4] => { results := [.lit (.bool false)], args := [d1, d2, d3, d4] }
  | _ => none }
def SortKindsWrongFalsely : Prop := sortKindsRow.holds Try.pinned (OpenSpec.ofChange sortKindsWrong)

/- THE SECOND FORM. 'bulk': how many values and letters a reading holds, each counted each time it is reached (what is shared counts as often as it is met; a slice's spare places count too). A statement '..UptoSaid' is the law's where the arguments, and the package variables that the reading takes, are together of bulk at most 1048576: NARROWER than '..Said'. Prove '..Said' where nothing that the law and all that it calls make is longer than what came in: it says more and counts as full. Else prove '..UptoSaid'. A law counts once. -/
mutual
def uptoBulk {H : Type} : DataW H → Nat
  | .lit (.string bytes) => bytes.length + 1
  | .lit _ => 1
  | .nil => 1
  | .ptr d => uptoBulk d + 1
  | .slice elems spare => uptoBulkAll elems + uptoBulkAll spare + 1
  | .agg parts => uptoBulkAll parts + 1
  | .iface _ d => uptoBulk d + 1
  | .map entries => uptoBulkEntries entries + 1
  | .held _ => 1
def uptoBulkAll {H : Type} : List (DataW H) → Nat
  | [] => 0
  | d :: r => uptoBulk d + uptoBulkAll r
def uptoBulkEntries {H : Type} : List (Lit × DataW H) → Nat
  | [] => 0
  | x :: r => uptoBulkEntry x + uptoBulkEntries r
def uptoBulkEntry {H : Type} : Lit × DataW H → Nat
  | (.string bytes, d) => bytes.length + uptoBulk d + 1
  | (_, d) => uptoBulk d + 1
 end
def uptoSmall : (H : Type) → List (DataW H) → Bool := fun _ ds => decide (uptoBulkAll ds ≤ 1048576)
def OpenSpec.upto (s : _root_.Go.ChangeSpec) : _root_.Go.OpenSpec := { _root_.Go.OpenSpec.ofChange s with cond := some uptoSmall }

/-- 'parrylaw3.SortForms', WHERE WHAT IT READS IS OF BULK AT MOST 1048576: true; the input reads as it did. -/
def sortFormsUptoRow : OpenClaim := { program := "ytdjllpejonfpgaa", sum := "2480a16bfd82cd3f620ad47335623920145cb52a8209872730ed7f3974da3308", func := "parry/parrylaw3.SortForms", spec := "sortForms", recurses := true, loops := true, apart := false, narrowed := true }
def SortFormsUptoSaid : Prop := sortFormsUptoRow.holds Try.pinned (OpenSpec.upto sortFormsSpec)

/-- 'parrylaw3.SortOne', WHERE WHAT IT READS IS OF BULK AT MOST 1048576: true; the input reads as it did. -/
def sortOneUptoRow : OpenClaim := { program := "ytdjllpejonfpgaa", sum := "2480a16bfd82cd3f620ad47335623920145cb52a8209872730ed7f3974da3308", func := "parry/parrylaw3.SortOne", spec := "sortOne", recurses := true, loops := true, apart := false, narrowed := true }
def SortOneUptoSaid : Prop := sortOneUptoRow.holds Try.pinned (OpenSpec.upto sortOneSpec)

/-- 'parrylaw3.SortNeeds', WHERE WHAT IT READS IS OF BULK AT MOST 1048576: true; the input reads as it did. -/
def sortNeedsUptoRow : OpenClaim := { program := "ytdjllpejonfpgaa", sum := "2480a16bfd82cd3f620ad47335623920145cb52a8209872730ed7f3974da3308", func := "parry/parrylaw3.SortNeeds", spec := "sortNeeds", recurses := true, loops := true, apart := false, narrowed := true }
def SortNeedsUptoSaid : Prop := sortNeedsUptoRow.holds Try.pinned (OpenSpec.upto sortNeedsSpec)

/-- 'parrylaw3.SortKinds', WHERE WHAT IT READS IS OF BULK AT MOST 1048576: true; the input reads as it did. -/
def sortKindsUptoRow : OpenClaim := { program := "ytdjllpejonfpgaa", sum := "2480a16bfd82cd3f620ad47335623920145cb52a8209872730ed7f3974da3308", func := "parry/parrylaw3.SortKinds", spec := "sortKinds", recurses := true, loops := true, apart := false, narrowed := true }
def SortKindsUptoSaid : Prop := sortKindsUptoRow.holds Try.pinned (OpenSpec.upto sortKindsSpec)

end Rows
end Go.Proofs.Ytdjllpejonfpgaa
