/-
  No cell of these rows narrows 'for every input' (looked for: loops, veiled, ifaces, maps, wideKeys, modest, calm, conditions, laid).
  DERIVED. THE GIVEN ROWS OF THIS SEAT. 7 by the template 'for every input the law returns true; each argument reads behind the call as it read before'; 0 by the template 'total and deterministic' (their statements: YtikanaabecmkcaaTotals.lean).
  GIVEN WITH THE SEED: the statements are not yours to turn. If you find one false, say at which input.
  Laid BY PROGRAM, IN A SANDBOX (cutbox-rows.mjs): the forced cells as the released guide's own fill.sh prints them over the translation 76bcd5a85cb0933e… (all of the seat's roots in one cut). By AI agents, Wed Nov 11 2026. No macro, syntax, notation, axiom, sorry.
-/
import Derived.Test.YtikanaabecmkcaaChecked
import GoSem.Claim
import GoSem.ClaimJoined
import GoSem.ClaimMapViews
import Derived.JoinedTies
import Derived.KernelRfl
namespace Go.Proofs.Ytikanaabecmkcaa
/- THE CELL 'sum', in the pinned program and in every row, IS THE sha256 OF THE DUMP (.gsa) THAT YtikanaabecmkcaaProg.lean LOADS. Nothing in Lean hashes anything: it is a label: what it is worth is what the hold of that sum in a sandbox is worth. -/
noncomputable def Try.pinned : Pinned := { name := "ytikanaabecmkcaa", sum := "76bcd5a85cb0933e9f6f046d51acf7790dd405686e6ef94fe3f8616704621c7b", checked := Try.checked }
namespace Rows
def none {H : Type} : Left H := { results := [], args := [] }

/-- 'stolonlaw06.SetTells': WHATEVER THE INPUT: true; the input reads as it did. -/
def setTellsSpec : ChangeSpec := { name := "setTells", fn := fun _ => fun
  | [d1, d2, d3] => { results := [.lit (.bool true)], args := [d1, d2, d3] }
  | _ => none }
def setTellsRow : OpenClaim := { program := "ytikanaabecmkcaa", sum := "76bcd5a85cb0933e9f6f046d51acf7790dd405686e6ef94fe3f8616704621c7b", func := "stolon/stolonlaw06.SetTells", spec := "setTells", unfollowed := true, recurses := true, apart := false }
def SetTellsSaid : Prop := setTellsRow.holds Try.pinned (OpenSpec.ofChange setTellsSpec)

/-- ITS FALSE NEIGHBOUR: 'it returns false'. Refute it at one input. -/
def setTellsWrong : ChangeSpec := { name := "setTells", fn := fun _ => fun
  | [d1, d2, d3] => { results := [.lit (.bool false)], args := [d1, d2, d3] }
  | _ => none }
def SetTellsWrongFalsely : Prop := setTellsRow.holds Try.pinned (OpenSpec.ofChange setTellsWrong)

/-- 'stolonlaw06.SetFilters': WHATEVER THE INPUT: true; the input reads as it did. -/
def setFiltersSpec : ChangeSpec := { name := "setFilters", fn := fun _ => fun
  | [d1, d2] => { results := [.lit (.bool true)], args := [d1, d2] }
  | _ => none }
def setFiltersRow : OpenClaim := { program := "ytikanaabecmkcaa", sum := "76bcd5a85cb0933e9f6f046d51acf7790dd405686e6ef94fe3f8616704621c7b", func := "stolon/stolonlaw06.SetFilters", spec := "setFilters", unfollowed := true, recurses := true, apart := false }
def SetFiltersSaid : Prop := setFiltersRow.holds Try.pinned (OpenSpec.ofChange setFiltersSpec)

/-- ITS FALSE NEIGHBOUR: 'it returns false'. Refute it at one input. -/
def setFiltersWrong : ChangeSpec := { name := "setFilters", fn := fun _ => fun
  | [d1, d2] => { results := [.lit (.bool false)], args := [d1, d2] }
  | _ => none }
def SetFiltersWrongFalsely : Prop := setFiltersRow.holds Try.pinned (OpenSpec.ofChange setFiltersWrong)

/-- 'stolonlaw06.SetParts': WHATEVER THE INPUT: true; the input reads as it did. -/
def setPartsSpec : ChangeSpec := { name := "setParts", fn := fun _ => fun
  | [d1, d2, d3] => { results := [.lit (.bool true)], args := [d1, d2, d3] }
  | _ => none }
def setPartsRow : OpenClaim := { program := "ytikanaabecmkcaa", sum := "76bcd5a85cb0933e9f6f046d51acf7790dd405686e6ef94fe3f8616704621c7b", func := "stolon/stolonlaw06.SetParts", spec := "setParts", unfollowed := true, recurses := true, apart := false }
def SetPartsSaid : Prop := setPartsRow.holds Try.pinned (OpenSpec.ofChange setPartsSpec)

/-- ITS FALSE NEIGHBOUR: 'it returns false'. Refute it at one input. -/
def setPartsWrong : ChangeSpec := { name := "setParts", fn := fun _ => fun
  | [d1, d2, d3] => { results := [.lit (.bool false)], args := [d1, d2, d3] }
  | _ => none }
def SetPartsWrongFalsely : Prop := setPartsRow.holds Try.pinned (OpenSpec.ofChange setPartsWrong)

/-- 'stolonlaw06.SetWants': WHATEVER THE INPUT: true; the input reads as it did. -/
def setWantsSpec : ChangeSpec := { name := "setWants", fn := fun _ => fun
  | [d1, d2] => { results := [.lit (.bool true)], args := [d1, d2] }
  | _ => none }
def setWantsRow : OpenClaim := { program := "ytikanaabecmkcaa", sum := "76bcd5a85cb0933e9f6f046d51acf7790dd405686e6ef94fe3f8616704621c7b", func := "stolon/stolonlaw06.SetWants", spec := "setWants", unfollowed := true, recurses := true, apart := false }
def SetWantsSaid : Prop := setWantsRow.holds Try.pinned (OpenSpec.ofChange setWantsSpec)

/-- ITS FALSE NEIGHBOUR: 'it returns false'. Refute it at one input. -/
def setWantsWrong : ChangeSpec := { name := "setWants", fn := fun _ => fun
  | [d1, d2] => { results := [.lit (.bool false)], args := [d1, d2] }
  | _ => none }
def SetWantsWrongFalsely : Prop := setWantsRow.holds Try.pinned (OpenSpec.ofChange setWantsWrong)

/-- 'stolonlaw06.SetLaws': WHATEVER THE INPUT: true; the input reads as it did. -/
def setLawsSpec : ChangeSpec := { name := "setLaws", fn := fun _ => fun
  | [d1, d2, d3] => { results := [.lit (.bool true)], args := [d1, d2, d3] }
  | _ => none }
def setLawsRow : OpenClaim := { program := "ytikanaabecmkcaa", sum := "76bcd5a85cb0933e9f6f046d51acf7790dd405686e6ef94fe3f8616704621c7b", func := "stolon/stolonlaw06.SetLaws", spec := "setLaws", unfollowed := true, recurses := true, apart := false }
def SetLawsSaid : Prop := setLawsRow.holds Try.pinned (OpenSpec.ofChange setLawsSpec)

/-- ITS FALSE NEIGHBOUR: 'it returns false'. Refute it at one input. -/
def setLawsWrong : ChangeSpec := { name := "setLaws", fn := fun _ => fun
  | [d1, d2, d3] => { results := [.lit (.bool false)], args := [d1, d2, d3] }
  | _ => none }
def SetLawsWrongFalsely : Prop := setLawsRow.holds Try.pinned (OpenSpec.ofChange setLawsWrong)

/-- 'stolonlaw06.SetMakes': WHATEVER THE INPUT: true; the input reads as it did. -/
def setMakesSpec : ChangeSpec := { name := "setMakes", fn := fun _ => fun
  | [d1, d2, d3] => { results := [.lit (.bool true)], args := [d1, d2, d3] }
  | _ => none }
def setMakesRow : OpenClaim := { program := "ytikanaabecmkcaa", sum := "76bcd5a85cb0933e9f6f046d51acf7790dd405686e6ef94fe3f8616704621c7b", func := "stolon/stolonlaw06.SetMakes", spec := "setMakes", unfollowed := true, recurses := true, apart := false }
def SetMakesSaid : Prop := setMakesRow.holds Try.pinned (OpenSpec.ofChange setMakesSpec)

/-- ITS FALSE NEIGHBOUR: 'it returns false'. Refute it at one input. -/
def setMakesWrong : ChangeSpec := { name := "setMakes", fn := fun _ => fun
  | [d1, d2, d3] => { results := [.lit (.bool false)], args := [d1, d2, d3] }
  | _ => none }
def SetMakesWrongFalsely : Prop := setMakesRow.holds Try.pinned (OpenSpec.ofChange setMakesWrong)

/-- 'stolonlaw06.SetMore': WHATEVER THE INPUT: true; the input reads as it did. -/
def setMoreSpec : ChangeSpec := { name := "setMore", fn := fun _ => fun
  | [d1, d2, d3] => { results := [.lit (.bool true)], args := [d1, d2, d3] }
  | _ => none }
def setMoreRow : OpenClaim := { program := "ytikanaabecmkcaa", sum := "76bcd5a85cb0933e9f6f046d51acf7790dd405686e6ef94fe3f8616704621c7b", func := "stolon/stolonlaw06.SetMore", spec := "setMore", unfollowed := true, recurses := true, apart := false }
def SetMoreSaid : Prop := setMoreRow.holds Try.pinned (OpenSpec.ofChange setMoreSpec)

/-- ITS FALSE NEIGHBOUR: 'it returns false'. Refute it at one input. -/
def setMoreWrong : ChangeSpec := { name := "setMore", fn := fun _ => fun
  | [d1, d2, d3] => { results := [.lit (.bool false)], args := [d1, d2, d3] }
  | _ => none }
def SetMoreWrongFalsely : Prop := setMoreRow.holds Try.pinned (OpenSpec.ofChange setMoreWrong)

/- THE SECOND FORM. 'bulk': how many values and letters a reading holds, each counted each time it is reached (what is shared counts as often as it is met; a slice's spare places count too). A statement '..UptoSaid' is the law's where the arguments, and the package variables that the reading takes, are together of bulk at most 1048576: NARROWER than '..Said'. Prove '..Said' where nothing that the law and all that it calls make is longer than what came in: it says more and counts as full. Else prove '..UptoSaid'. A law counts once. -/
mutual
def uptoBulk {H : Type} : DataW H → Nat
  | .lit (.string bytes) => bytes.length + 1
  | .lit _ => 1
  | .nil => 1
  | .ptr d => uptoBulk d + 1
  | .slice elems spare => uptoBulkAll elems + uptoBulkAll spare + 1
  | .agg parts => uptoBulkAll parts + 1
  | .iface _ d => uptoBulk d + 1
  | .map entries => uptoBulkEntries entries + 1
  | .held _ => 1
def uptoBulkAll {H : Type} : List (DataW H) → Nat
  | [] => 0
  | d :: r => uptoBulk d + uptoBulkAll r
def uptoBulkEntries {H : Type} : List (Lit × DataW H) → Nat
  | [] => 0
  | x :: r => uptoBulkEntry x + uptoBulkEntries r
def uptoBulkEntry {H : Type} : Lit × DataW H → Nat
  | (.string bytes, d) => bytes.length + uptoBulk d + 1
  | (_, d) => uptoBulk d + 1
 end
def uptoSmall : (H : Type) → List (DataW H) → Bool := fun _ ds => decide (uptoBulkAll ds ≤ 1048576)
def OpenSpec.upto (s : _root_.Go.ChangeSpec) : _root_.Go.OpenSpec := { _root_.Go.OpenSpec.ofChange s with cond := some uptoSmall }

/-- 'stolonlaw06.SetTells', WHERE WHAT IT READS IS OF BULK AT MOST 1048576: true; the input reads as it did. -/
def setTellsUptoRow : OpenClaim := { program := "ytikanaabecmkcaa", sum := "76bcd5a85cb0933e9f6f046d51acf7790dd405686e6ef94fe3f8616704621c7b", func := "stolon/stolonlaw06.SetTells", spec := "setTells", unfollowed := true, recurses := true, apart := false, narrowed := true }
def SetTellsUptoSaid : Prop := setTellsUptoRow.holds Try.pinned (OpenSpec.upto setTellsSpec)

/-- 'stolonlaw06.SetFilters', WHERE WHAT IT READS IS OF BULK AT MOST 1048576: true; the input reads as it did. -/
def setFiltersUptoRow : OpenClaim := { program := "ytikanaabecmkcaa", sum := "76bcd5a85cb0933e9f6f046d51acf7790dd405686e6ef94fe3f8616704621c7b", func := "stolon/stolonlaw06.SetFilters", spec := "setFilters", unfollowed := true, recurses := true, apart := false, narrowed := true }
def SetFiltersUptoSaid : Prop := setFiltersUptoRow.holds Try.pinned (OpenSpec.upto setFiltersSpec)

/-- 'stolonlaw06.SetParts', WHERE WHAT IT READS IS OF BULK AT MOST 1048576: true; the input reads as it did. -/
def setPartsUptoRow : OpenClaim := { program := "ytikanaabecmkcaa", sum := "76bcd5a85cb0933e9f6f046d51acf7790dd405686e6ef94fe3f8616704621c7b", func := "stolon/stolonlaw06.SetParts", spec := "setParts", unfollowed := true, recurses := true, apart := false, narrowed := true }
def SetPartsUptoSaid : Prop := setPartsUptoRow.holds Try.pinned (OpenSpec.upto setPartsSpec)

/-- 'stolonlaw06.SetWants', WHERE WHAT IT READS IS OF BULK AT MOST 1048576: true; the input reads as it did. -/
def setWantsUptoRow : OpenClaim := { program := "ytikanaabecmkcaa", sum := "76bcd5a85cb0933e9f6f046d51acf7790dd405686e6ef94fe3f8616704621c7b", func := "stolon/stolonlaw06.SetWants", spec := "setWants", unfollowed := true, recurses := true, apart := false, narrowed := true }
def SetWantsUptoSaid : Prop := setWantsUptoRow.holds Try.pinned (OpenSpec.upto setWantsSpec)

/-- 'stolonlaw06.SetLaws', WHERE WHAT IT READS IS OF BULK AT MOST 1048576: true; the input reads as it did. -/
def setLawsUptoRow : OpenClaim := { program := "ytikanaabecmkcaa", sum := "76bcd5a85cb0933e9f6f046d51acf7790dd405686e6ef94fe3f8616704621c7b", func := "stolon/stolonlaw06.SetLaws", spec := "setLaws", unfollowed := true, recurses := true, apart := false, narrowed := true }
def SetLawsUptoSaid : Prop := setLawsUptoRow.holds Try.pinned (OpenSpec.upto setLawsSpec)

/-- 'stolonlaw06.SetMakes', WHERE WHAT IT READS IS OF BULK AT MOST 1048576: true; the input reads as it did. -/
def setMakesUptoRow : OpenClaim := { program := "ytikanaabecmkcaa", sum := "76bcd5a85cb0933e9f6f046d51acf7790dd405686e6ef94fe3f8616704621c7b", func := "stolon/stolonlaw06.SetMakes", spec := "setMakes", unfollowed := true, recurses := true, apart := false, narrowed := true }
def SetMakesUptoSaid : Prop := setMakesUptoRow.holds Try.pinned (OpenSpec.upto setMakesSpec)

/-- 'stolonlaw06.SetMore', WHERE WHAT IT READS IS OF BULK AT MOST 1048576: true; the input reads as it did. -/
def setMoreUptoRow : OpenClaim := { program := "ytikanaabecmkcaa", sum := "76bcd5a85cb0933e9f6f046d51acf7790dd405686e6ef94fe3f8616704621c7b", func := "stolon/stolonlaw06.SetMore", spec := "setMore", unfollowed := true, recurses := true, apart := false, narrowed := true }
def SetMoreUptoSaid : Prop := setMoreUptoRow.holds Try.pinned (OpenSpec.upto setMoreSpec)

end Rows
end Go.Proofs.Ytikanaabecmkcaa
