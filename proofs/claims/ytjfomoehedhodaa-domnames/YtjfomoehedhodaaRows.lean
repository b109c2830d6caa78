/-
  No cell of these rows narrows 'for every input' (looked for: loops, veiled, ifaces, maps, wideKeys, modest, calm, conditions, laid).
  DERIVED. THE GIVEN ROWS OF THIS SEAT. 6 by the template 'for every input the law returns true; each argument reads behind the call as it read before'; 0 by the template 'total and deterministic' (their statements: YtjfomoehedhodaaTotals.lean).
  GIVEN WITH THE SEED: the statements are not yours to turn. If you find one false, say at which input.
  Laid BY PROGRAM, IN A SANDBOX (cutbox-rows.mjs): the forced cells as the released guide's own fill.sh prints them over the translation 5303f9eac4aacfe5… (all of the seat's roots in one cut). By AI agents, Wed Nov 11 2026. No macro, syntax, notation, axiom, sorry.
-/
import Derived.Test.YtjfomoehedhodaaChecked
import GoSem.Claim
import GoSem.ClaimJoined
import GoSem.ClaimMapViews
import Derived.JoinedTies
import Derived.KernelRfl
namespace Go.Proofs.Ytjfomoehedhodaa
/- THE CELL 'sum', in the pinned program and in every row, IS THE sha256 OF THE DUMP (.gsa) THAT YtjfomoehedhodaaProg.lean LOADS. Nothing in Lean hashes anything: it is a label: what it is worth is what the hold of that sum in a sandbox is worth. -/
noncomputable def Try.pinned : Pinned := { name := "ytjfomoehedhodaa", sum := "5303f9eac4aacfe59fe381fd338c407c10f26ed5e0634fc64792929ea0dbc60c", checked := Try.checked }
namespace Rows
def none {H : Type} : Left H := { results := [], args := [] }

/-- 'parrylaw1.DomForms': WHATEVER THE INPUT: true; the input reads as it did. -/
def domFormsSpec : ChangeSpec := { name := "domForms", fn := fun _ => fun
  | [d1, d2, d3, d4, d5, d6, d7] => { results := [.lit (.bool true)], args := [d1, d2, d3, d4, d5, d6, d7] }
  | _ => none }
def domFormsRow : OpenClaim := { program := "ytjfomoehedhodaa", sum := "5303f9eac4aacfe59fe381fd338c407c10f26ed5e0634fc64792929ea0dbc60c", func := "parry/parrylaw1.DomForms", spec := "domForms", apart := false }
def DomFormsSaid : Prop := domFormsRow.holds Try.pinned (OpenSpec.ofChange domFormsSpec)

/-- ITS FALSE NEIGHBOUR: 'it returns false'. Refute it at one input. -/
def domFormsWrong : ChangeSpec := { name := "domForms", fn := fun _ => fun
  | [d1, d2, d3, d4, d5, d6, d7] => { results := [.lit (.bool false)], args := [d1, d2, d3, d4, d5, d6, d7] }
  | _ => none }
def DomFormsWrongFalsely : Prop := domFormsRow.holds Try.pinned (OpenSpec.ofChange domFormsWrong)

/-- 'parrylaw1.DomBack': WHATEVER THE INPUT: true; the input reads as it did. -/
def domBackSpec : ChangeSpec := { name := "domBack", fn := fun _ => fun
  | [d1, d2] => { results := [.lit (.bool true)], args := [d1, d2] }
  | _ => none }
def domBackRow : OpenClaim := { program := "ytjfomoehedhodaa", sum := "5303f9eac4aacfe59fe381fd338c407c10f26ed5e0634fc64792929ea0dbc60c", func := "parry/parrylaw1.DomBack", spec := "domBack", apart := false }
def DomBackSaid : Prop := domBackRow.holds Try.pinned (OpenSpec.ofChange domBackSpec)

/-- ITS FALSE NEIGHBOUR: 'it returns false'. Refute it at one input. -/
def domBackWrong : ChangeSpec := { name := "domBack", fn := fun _ => fun
  | [d1, d2] => { results := [.lit (.bool false)], args := [d1, d2] }
  | _ => none }
def DomBackWrongFalsely : Prop := domBackRow.holds Try.pinned (OpenSpec.ofChange domBackWrong)

/-- 'parrylaw1.DomParts': WHATEVER THE INPUT: true; the input reads as it did. -/
def domPartsSpec : ChangeSpec := { name := "domParts", fn := fun _ => fun
  | [d1, d2, d3, d4] => { results := [.lit (.bool true)], args := [d1, d2, d3, d4] }
  | _ => none }
def domPartsRow : OpenClaim := { program := "ytjfomoehedhodaa", sum := "5303f9eac4aacfe59fe381fd338c407c10f26ed5e0634fc64792929ea0dbc60c", func := "parry/parrylaw1.DomParts", spec := "domParts", apart := false }
def DomPartsSaid : Prop := domPartsRow.holds Try.pinned (OpenSpec.ofChange domPartsSpec)

/-- ITS FALSE NEIGHBOUR: 'it returns false'. Refute it at one input. -/
def domPartsWrong : ChangeSpec := { name := "domParts", fn := fun _ => fun
  | [d1, d2, d3, d4] => { results := [.lit (.bool false)], args := [d1, d2, d3, d4] }
  | _ => none }
def DomPartsWrongFalsely : Prop := domPartsRow.holds Try.pinned (OpenSpec.ofChange domPartsWrong)

/-- 'parrylaw1.DomNames': WHATEVER THE INPUT: true; the input reads as it did. -/
def domNamesSpec : ChangeSpec := { name := "domNames", fn := fun _ => fun
  | [d1, d2] => { results := [.lit (.bool true)], args := [d1, d2] }
  | _ => none }
def domNamesRow : OpenClaim := { program := "ytjfomoehedhodaa", sum := "5303f9eac4aacfe59fe381fd338c407c10f26ed5e0634fc64792929ea0dbc60c", func := "parry/parrylaw1.DomNames", spec := "domNames", apart := false }
def DomNamesSaid : Prop := domNamesRow.holds Try.pinned (OpenSpec.ofChange domNamesSpec)

/-- ITS FALSE NEIGHBOUR: 'it returns false'. Refute it at one input. -/
def domNamesWrong : ChangeSpec := { name := "domNames", fn := fun _ => fun
  | [d1, d2] => { results := [.lit (.bool false)], args := [d1, d2] }
  | _ => none }
def DomNamesWrongFalsely : Prop := domNamesRow.holds Try.pinned (OpenSpec.ofChange domNamesWrong)

/-- 'parrylaw1.DomSizes': WHATEVER THE INPUT: true; the input reads as it did. -/
def domSizesSpec : ChangeSpec := { name := "domSizes", fn := fun _ => fun
  | [d1, d2, d3] => { results := [.lit (.bool true)], args := [d1, d2, d3] }
  | _ => none }
def domSizesRow : OpenClaim := { program := "ytjfomoehedhodaa", sum := "5303f9eac4aacfe59fe381fd338c407c10f26ed5e0634fc64792929ea0dbc60c", func := "parry/parrylaw1.DomSizes", spec := "domSizes", apart := false }
def DomSizesSaid : Prop := domSizesRow.holds Try.pinned (OpenSpec.ofChange domSizesSpec)

/-- ITS FALSE NEIGHBOUR: 'it returns false'. Refute it at one input. -/
def domSizesWrong : ChangeSpec := { name := "domSizes", fn := fun _ => fun
  | [d1, d2, d3] => { results := [.lit (.bool false)], args := [d1, d2, d3] }
  | _ => none }
def DomSizesWrongFalsely : Prop := domSizesRow.holds Try.pinned (OpenSpec.ofChange domSizesWrong)

/-- 'parrylaw1.DomOrder': WHATEVER THE INPUT: true; the input reads as it did. -/
def domOrderSpec : ChangeSpec := { name := "domOrder", fn := fun _ => fun
  | [d1, d2] => { results := [.lit (.bool true)], args := [d1, d2] }
  | _ => none }
def domOrderRow : OpenClaim := { program := "ytjfomoehedhodaa", sum := "5303f9eac4aacfe59fe381fd338c407c10f26ed5e0634fc64792929ea0dbc60c", func := "parry/parrylaw1.DomOrder", spec := "domOrder", apart := false }
def DomOrderSaid : Prop := domOrderRow.holds Try.pinned (OpenSpec.ofChange domOrderSpec)

/-- ITS FALSE NEIGHBOUR: 'it returns false'. Refute it at one input. -/
def domOrderWrong : ChangeSpec := { name := "domOrder", fn := fun _ => fun
  | [d1, d2] => { results := [.lit (.bool false)], args := [d1, d2] }
  | _ => none }
def DomOrderWrongFalsely : Prop := domOrderRow.holds Try.pinned (OpenSpec.ofChange domOrderWrong)

/- THE SECOND FORM. 'bulk': how many values and letters a reading holds, each counted each time it is reached (what is shared counts as often as it is met; a slice's spare places count too). A statement '..UptoSaid' is the law's where the arguments, and the package variables that the reading takes, are together of bulk at most 1048576: NARROWER than '..Said'. Prove '..Said' where nothing that the law and all that it calls make is longer than what came in: it says more and counts as full. Else prove '..UptoSaid'. A law counts once. -/
mutual
def uptoBulk {H : Type} : DataW H → Nat
  | .lit (.string bytes) => bytes.length + 1
  | .lit _ => 1
  | .nil => 1
  | .ptr d => uptoBulk d + 1
  | .slice elems spare => uptoBulkAll elems + uptoBulkAll spare + 1
  | .agg parts => uptoBulkAll parts + 1
  | .iface _ d => uptoBulk d + 1
  | .map entries => uptoBulkEntries entries + 1
  | .held _ => 1
def uptoBulkAll {H : Type} : List (DataW H) → Nat
  | [] => 0
  | d :: r => uptoBulk d + uptoBulkAll r
def uptoBulkEntries {H : Type} : List (Lit × DataW H) → Nat
  | [] => 0
  | x :: r => uptoBulkEntry x + uptoBulkEntries r
def uptoBulkEntry {H : Type} : Lit × DataW H → Nat
  | (.string bytes, d) => bytes.length + uptoBulk d + 1
  | (_, d) => uptoBulk d + 1
 end
def uptoSmall : (H : Type) → List (DataW H) → Bool := fun _ ds => decide (uptoBulkAll ds ≤ 1048576)
def OpenSpec.upto (s : _root_.Go.ChangeSpec) : _root_.Go.OpenSpec := { _root_.Go.OpenSpec.ofChange s with cond := some uptoSmall }

/-- 'parrylaw1.DomForms', WHERE WHAT IT READS IS OF BULK AT MOST 1048576: true; the input reads as it did. -/
def domFormsUptoRow : OpenClaim := { program := "ytjfomoehedhodaa", sum := "5303f9eac4aacfe59fe381fd338c407c10f26ed5e0634fc64792929ea0dbc60c", func := "parry/parrylaw1.DomForms", spec := "domForms", apart := false, narrowed := true }
def DomFormsUptoSaid : Prop := domFormsUptoRow.holds Try.pinned (OpenSpec.upto domFormsSpec)

/-- 'parrylaw1.DomBack', WHERE WHAT IT READS IS OF BULK AT MOST 1048576: true; the input reads as it did. -/
def domBackUptoRow : OpenClaim := { program := "ytjfomoehedhodaa", sum := "5303f9eac4aacfe59fe381fd338c407c10f26ed5e0634fc64792929ea0dbc60c", func := "parry/parrylaw1.DomBack", spec := "domBack", apart := false, narrowed := true }
def DomBackUptoSaid : Prop := domBackUptoRow.holds Try.pinned (OpenSpec.upto domBackSpec)

/-- 'parrylaw1.DomParts', WHERE WHAT IT READS IS OF BULK AT MOST 1048576: true; the input reads as it did. -/
def domPartsUptoRow : OpenClaim := { program := "ytjfomoehedhodaa", sum := "5303f9eac4aacfe59fe381fd338c407c10f26ed5e0634fc64792929ea0dbc60c", func := "parry/parrylaw1.DomParts", spec := "domParts", apart := false, narrowed := true }
def DomPartsUptoSaid : Prop := domPartsUptoRow.holds Try.pinned (OpenSpec.upto domPartsSpec)

/-- 'parrylaw1.DomNames', WHERE WHAT IT READS IS OF BULK AT MOST 1048576: true; the input reads as it did. -/
def domNamesUptoRow : OpenClaim := { program := "ytjfomoehedhodaa", sum := "5303f9eac4aacfe59fe381fd338c407c10f26ed5e0634fc64792929ea0dbc60c", func := "parry/parrylaw1.DomNames", spec := "domNames", apart := false, narrowed := true }
def DomNamesUptoSaid : Prop := domNamesUptoRow.holds Try.pinned (OpenSpec.upto domNamesSpec)

/-- 'parrylaw1.DomSizes', WHERE WHAT IT READS IS OF BULK AT MOST 1048576: true; the input reads as it did. -/
def domSizesUptoRow : OpenClaim := { program := "ytjfomoehedhodaa", sum := "5303f9eac4aacfe59fe381fd338c407c10f26ed5e0634fc64792929ea0dbc60c", func := "parry/parrylaw1.DomSizes", spec := "domSizes", apart := false, narrowed := true }
def DomSizesUptoSaid : Prop := domSizesUptoRow.holds Try.pinned (OpenSpec.upto domSizesSpec)

/-- 'parrylaw1.DomOrder', WHERE WHAT IT READS IS OF BULK AT MOST 1048576: true; the input reads as it did. -/
def domOrderUptoRow : OpenClaim := { program := "ytjfomoehedhodaa", sum := "5303f9eac4aacfe59fe381fd338c407c10f26ed5e0634fc64792929ea0dbc60c", func := "parry/parrylaw1.DomOrder", spec := "domOrder", apart := false, narrowed := true }
def DomOrderUptoSaid : Prop := domOrderUptoRow.holds Try.pinned (OpenSpec.upto domOrderSpec)

end Rows
end Go.Proofs.Ytjfomoehedhodaa
