/-
  No cell of these rows narrows 'for every input' (looked for: loops, veiled, ifaces, maps, wideKeys, modest, calm, conditions, laid).
  DERIVED. THE GIVEN ROWS OF THIS SEAT. 8 by the template 'for every input the law returns true; each argument reads behind the call as it read before'; 0 by the template 'total and deterministic' (their statements: YtmcbbccbonadjaaTotals.lean).
  GIVEN WITH THE SEED: the statements are not yours to turn. If you find one false, say at which input.
  Laid BY PROGRAM, IN A SANDBOX (cutbox-rows.mjs): the forced cells as the released guide's own fill.sh prints them over the translation 2a691b17b96b01de… (all of the seat's roots in one cut). By AI agents, Wed Nov 11 2026. No macro, syntax, notation, axiom, sorry.
-/
import Derived.Test.YtmcbbccbonadjaaChecked
import GoSem.Claim
import GoSem.ClaimJoined
import GoSem.ClaimMapViews
import Derived.JoinedTies
import Derived.KernelRfl
namespace Go.Proofs.Ytmcbbccbonadjaa
/- THE CELL 'sum', in the pinned program and in every row, IS THE sha256 OF THE DUMP (.gsa) THAT YtmcbbccbonadjaaProg.lean LOADS. Nothing in Lean hashes anything: it is a label: what it is worth is what the hold of that sum in a sandbox is worth. -/
noncomputable def Try.pinned : Pinned := { name := "ytmcbbccbonadjaa", sum := "2a691b17b96b01de5694c085e6fe17668534ad8932bac5521474cf182f04d0c4", checked := Try.checked }
namespace Rows
def none {H : Type} : Left H := { results := [], args := [] }

/-- 'stolonlaw06.SetMore': WHATEVER THE INPUT: true; the input reads as it did. -/
def setMoreSpec : ChangeSpec := { name := "setMore", fn := fun _ => fun
  | [d1, d2, d3] => { results := [.lit (.bool true)], args := [d1, d2, d3] }
  | _ => none }
def setMoreRow : OpenClaim := { program := "ytmcbbccbonadjaa", sum := "2a691b17b96b01de5694c085e6fe17668534ad8932bac5521474cf182f04d0c4", func := "stolon/stolonlaw06.SetMore", spec := "setMore", unfollowed := true, recurses := true, plainKeys := false, apart := false }
def SetMoreSaid : Prop := setMoreRow.holds Try.pinned (OpenSpec.ofChange setMoreSpec)

/-- ITS FALSE NEIGHBOUR: 'it returns false'. Refute it at one input. -/
def setMoreWrong : ChangeSpec := { name := "setMore", fn := fun _ => fun
  | [d1, d2, d3] => { results := [.lit (.bool false)], args := [d1, d2, d3] }
  | _ => none }
def SetMoreWrongFalsely : Prop := setMoreRow.holds Try.pinned (OpenSpec.ofChange setMoreWrong)

/-- 'stolonlaw07.HostChanges': WHATEVER THE INPUT: true; the input reads as it did. -/
def hostChangesSpec : ChangeSpec := { name := "hostChanges", fn := fun _ => fun
  | [d] => { results := [.lit (.bool true)], args := [d] }
  | _ => none }
def hostChangesRow : OpenClaim := { program := "ytmcbbccbonadjaa", sum := "2a691b17b96b01de5694c085e6fe17668534ad8932bac5521474cf182f04d0c4", func := "stolon/stolonlaw07.HostChanges", spec := "hostChanges", unfollowed := true, recurses := true, plainKeys := false, apart := false }
def HostChangesSaid : Prop := hostChangesRow.holds Try.pinned (OpenSpec.ofChange hostChangesSpec)

/-- ITS FALSE NEIGHBOUR: 'it returns false'. Refute it at one input. -/
def hostChangesWrong : ChangeSpec := { name := "hostChanges", fn := fun _ => fun
  | [d] => { results := [.lit (.bool false)], args := [d] }
  | _ => none }
def HostChangesWrongFalsely : Prop := hostChangesRow.holds Try.pinned (OpenSpec.ofChange hostChangesWrong)

/-- 'stolonlaw07.HostTells': WHATEVER THE INPUT: true; the input reads as it did. -/
def hostTellsSpec : ChangeSpec := { name := "hostTells", fn := fun _ => fun
  | [d1, d2, d3] => { results := [.lit (.bool true)], args := [d1, d2, d3] }
  | _ => none }
def hostTellsRow : OpenClaim := { program := "ytmcbbccbonadjaa", sum := "2a691b17b96b01de5694c085e6fe17668534ad8932bac5521474cf182f04d0c4", func := "stolon/stolonlaw07.HostTells", spec := "hostTells", unfollowed := true, recurses := true, plainKeys := false, apart := false }
def HostTellsSaid : Prop := hostTellsRow.holds Try.pinned (OpenSpec.ofChange hostTellsSpec)

/-- ITS FALSE NEIGHBOUR: 'it returns false'. Refute it at one input. -/
def hostTellsWrong : ChangeSpec := { name := "hostTells", fn := fun _ => fun
  | [d1, d2, d3] => { results := [.lit (.bool false)], args := [d1, d2, d3] }
  | _ => none }
def HostTellsWrongFalsely : Prop := hostTellsRow.holds Try.pinned (OpenSpec.ofChange hostTellsWrong)

/-- 'stolonlaw07.HostStays': WHATEVER THE INPUT: true; the input reads as it did. -/
def hostStaysSpec : ChangeSpec := { name := "hostStays", fn := fun _ => fun
  | [d1, d2] => { results := [.lit (.bool true)], args := [d1, d2] }
  | _ => none }
def hostStaysRow : OpenClaim := { program := "ytmcbbccbonadjaa", sum := "2a691b17b96b01de5694c085e6fe17668534ad8932bac5521474cf182f04d0c4", func := "stolon/stolonlaw07.HostStays", spec := "hostStays", unfollowed := true, recurses := true, plainKeys := false, apart := false }
def HostStaysSaid : Prop := hostStaysRow.holds Try.pinned (OpenSpec.ofChange hostStaysSpec)

/-- ITS FALSE NEIGHBOUR: 'it returns false'. Refute it at one input. -/
def hostStaysWrong : ChangeSpec := { name := "hostStays", fn := fun _ => fun
  | [d1, d2] => { results := [.lit (.bool false)], args := [d1, d2] }
  | _ => none }
def HostStaysWrongFalsely : Prop := hostStaysRow.holds Try.pinned (OpenSpec.ofChange hostStaysWrong)

/-- 'stolonlaw07.HostWants': WHATEVER THE INPUT: true; the input reads as it did. -/
def hostWantsSpec : ChangeSpec := { name := "hostWants", fn := fun _ => fun
  | [d] => { results := [.lit (.bool true)], args := [d] }
  | _ => none }
def hostWantsRow : OpenClaim := { program := "ytmcbbccbonadjaa", sum := "2a691b17b96b01de5694c085e6fe17668534ad8932bac5521474cf182f04d0c4", func := "stolon/stolonlaw07.HostWants", spec := "hostWants", unfollowed := true, recurses := true, plainKeys := false, apart := false }
def HostWantsSaid : Prop := hostWantsRow.holds Try.pinned (OpenSpec.ofChange hostWantsSpec)

/-- ITS FALSE NEIGHBOUR: 'it returns false'. Refute it at one input. -/
def hostWantsWrong : ChangeSpec := { name := "hostWants", fn := fun _ => fun
  | [d] => { results := [.lit (.bool false)], args := [d] }
  | _ => none }
def HostWantsWrongFalsely : Prop := hostWantsRow.holds Try.pinned (OpenSpec.ofChange hostWantsWrong)

/-- 'stolonlaw07.HostSays': WHATEVER THE INPUT: true; the input reads as it did. -/
def hostSaysSpec : ChangeSpec := { name := "hostSays", fn := fun _ => fun
  | [d] => { results := [.lit (.bool true)], args := [d] }
  | _ => none }
def hostSaysRow : OpenClaim := { program := "ytmcbbccbonadjaa", sum := "2a691b17b96b01de5694c085e6fe17668534ad8932bac5521474cf182f04d0c4", func := "stolon/stolonlaw07.HostSays", spec := "hostSays", unfollowed := true, recurses := true, plainKeys := false, apart := false }
def HostSaysSaid : Prop := hostSaysRow.holds Try.pinned (OpenSpec.ofChange hostSaysSpec)

/-- ITS FALSE NEIGHBOUR: 'it returns false'. Refute it at one input. -/
def hostSaysWrong : ChangeSpec := { name := "hostSays", fn := fun _ => fun
  | [d] => { results := [.lit (.bool false)], args := [d] }
  | _ => none }
def HostSaysWrongFalsely : Prop := hostSaysRow.holds Try.pinned (OpenSpec.ofChange hostSaysWrong)

/-- 'stolonlaw07.HostGroups': WHATEVER THE INPUT: true; the input reads as it did. -/
def hostGroupsSpec : ChangeSpec := { name := "hostGroups", fn := fun _ => fun
  | [d1, d2] => { results := [.lit (.bool true)], args := [d1, d2] }
  | _ => none }
def hostGroupsRow : OpenClaim := { program := "ytmcbbccbonadjaa", sum := "2a691b17b96b01de5694c085e6fe17668534ad8932bac5521474cf182f04d0c4", func := "stolon/stolonlaw07.HostGroups", spec := "hostGroups", unfollowed := true, recurses := true, plainKeys := false, apart := false }
def HostGroupsSaid : Prop := hostGroupsRow.holds Try.pinned (OpenSpec.ofChange hostGroupsSpec)

/-- ITS FALSE NEIGHBOUR: 'it returns false'. Refute it at one input. -/
def hostGroupsWrong : ChangeSpec := { name := "hostGroups", fn := fun _ => fun
  | [d1, d2] => { results := [.lit (.bool false)], args := [d1, d2] }
  | _ => none }
def HostGroupsWrongFalsely : Prop := hostGroupsRow.holds Try.pinned (OpenSpec.ofChange hostGroupsWrong)

/-- 'stolonlaw07.HostTwo': WHATEVER THE INPUT: true; the input reads as it did. -/
def hostTwoSpec : ChangeSpec := { name := "hostTwo", fn := fun _ => fun
  | [d1, d2, d3] => { results := [.lit (.bool true)], args := [d1, d2, d3] }
  | _ => none }
def hostTwoRow : OpenClaim := { program := "ytmcbbccbonadjaa", sum := "2a691b17b96b01de5694c085e6fe17668534ad8932bac5521474cf182f04d0c4", func := "stolon/stolonlaw07.HostTwo", spec := "hostTwo", unfollowed := true, recurses := true, plainKeys := false, apart := false }
def HostTwoSaid : Prop := hostTwoRow.holds Try.pinned (OpenSpec.ofChange hostTwoSpec)

/-- ITS FALSE NEIGHBOUR: 'it returns false'. Refute it at one input. -/
def hostTwoWrong : ChangeSpec := { name := "hostTwo", fn := fun _ => fun
  | [d1, d2, d3] => { results := [.lit (.bool false)], args := [d1, d2, d3] }
  | _ => none }
def HostTwoWrongFalsely : Prop := hostTwoRow.holds Try.pinned (OpenSpec.ofChange hostTwoWrong)

/- THE SECOND FORM. 'bulk': how many values and letters a reading holds, each counted each time it is reached (what is shared counts as often as it is met; a slice's spare places count too). A statement '..UptoSaid' is the law's where the arguments, and the package variables that the reading takes, are together of bulk at most 1048576: NARROWER than '..Said'. Prove '..Said' where nothing that the law and all that it calls make is longer than what came in: it says more and counts as full. Else prove '..UptoSaid'. A law counts once. -/
mutual
def uptoBulk {H : Type} : DataW H → Nat
  | .lit (.string bytes) => bytes.length + 1
  | .lit _ => 1
  | .nil => 1
  | .ptr d => uptoBulk d + 1
  | .slice elems spare => uptoBulkAll elems + uptoBulkAll spare + 1
  | .agg parts => uptoBulkAll parts + 1
  | .iface _ d => uptoBulk d + 1
  | .map entries => uptoBulkEntries entries + 1
  | .held _ => 1
def uptoBulkAll {H : Type} : List (DataW H) → Nat
  | [] => 0
  | d :: r => uptoBulk d + uptoBulkAll r
def uptoBulkEntries {H : Type} : List (Lit × DataW H) → Nat
  | [] => 0
  | x :: r => uptoBulkEntry x + uptoBulkEntries r
def uptoBulkEntry {H : Type} : Lit × DataW H → Nat
  | (.string bytes, d) => bytes.length + uptoBulk d + 1
  | (_, d) => uptoBulk d + 1
 end
def uptoSmall : (H : Type) → List (DataW H) → Bool := fun _ ds => decide (uptoBulkAll ds ≤ 1048576)
def OpenSpec.upto (s : _root_.Go.ChangeSpec) : _root_.Go.OpenSpec := { _root_.Go.OpenSpec.ofChange s with cond := some uptoSmall }

/-- 'stolonlaw06.SetMore', WHERE WHAT IT READS IS OF BULK AT MOST 1048576: true; the input reads as it did. -/
def setMoreUptoRow : OpenClaim := { program := "ytmcbbccbonadjaa", sum := "2a691b17b96b01de5694c085e6fe17668534ad8932bac5521474cf182f04d0c4", func := "stolon/stolonlaw06.SetMore", spec := "setMore", unfollowed := true, recurses := true, plainKeys := false, apart := false, narrowed := true }
def SetMoreUptoSaid : Prop := setMoreUptoRow.holds Try.pinned (OpenSpec.upto setMoreSpec)

/-- 'stolonlaw07.HostChanges', WHERE WHAT IT READS IS OF BULK AT MOST 1048576: true; the input reads as it did. -/
def hostChangesUptoRow : OpenClaim := { program := "ytmcbbccbonadjaa", sum := "2a691b17b96b01de5694c085e6fe17668534ad8932bac5521474cf182f04d0c4", func := "stolon/stolonlaw07.HostChanges", spec := "hostChanges", unfollowed := true, recurses := true, plainKeys := false, apart := false, narrowed := true }
def HostChangesUptoSaid : Prop := hostChangesUptoRow.holds Try.pinned (OpenSpec.upto hostChangesSpec)

/-- 'stolonlaw07.HostTells', WHERE WHAT IT READS IS OF BULK AT MOST 1048576: true; the input reads as it did. -/
def hostTellsUptoRow : OpenClaim := { program := "ytmcbbccbonadjaa", sum := "2a691b17b96b01de5694c085e6fe17668534ad8932bac5521474cf182f04d0c4", func := "stolon/stolonlaw07.HostTells", spec := "hostTells", unfollowed := true, recurses := true, plainKeys := false, apart := false, narrowed := true }
def HostTellsUptoSaid : Prop := hostTellsUptoRow.holds Try.pinned (OpenSpec.upto hostTellsSpec)

/-- 'stolonlaw07.HostStays', WHERE WHAT IT READS IS OF BULK AT MOST 1048576: true; the input reads as it did. -/
def hostStaysUptoRow : OpenClaim := { program := "ytmcbbccbonadjaa", sum := "2a691b17b96b01de5694c085e6fe17668534ad8932bac5521474cf182f04d0c4", func := "stolon/stolonlaw07.HostStays", spec := "hostStays", unfollowed := true, recurses := true, plainKeys := false, apart := false, narrowed := true }
def HostStaysUptoSaid : Prop := hostStaysUptoRow.holds Try.pinned (OpenSpec.upto hostStaysSpec)

/-- 'stolonlaw07.HostWants', WHERE WHAT IT READS IS OF BULK AT MOST 1048576: true; the input reads as it did. -/
def hostWantsUptoRow : OpenClaim := { program := "ytmcbbccbonadjaa", sum := "2a691b17b96b01de5694c085e6fe17668534ad8932bac5521474cf182f04d0c4", func := "stolon/stolonlaw07.HostWants", spec := "hostWants", unfollowed := true, recurses := true, plainKeys := false, apart := false, narrowed := true }
def HostWantsUptoSaid : Prop := hostWantsUptoRow.holds Try.pinned (OpenSpec.upto hostWantsSpec)

/-- 'stolonlaw07.HostSays', WHERE WHAT IT READS IS OF BULK AT MOST 1048576: true; the input reads as it did. -/
def hostSaysUptoRow : OpenClaim := { program := "ytmcbbccbonadjaa", sum := "2a691b17b96b01de5694c085e6fe17668534ad8932bac5521474cf182f04d0c4", func := "stolon/stolonlaw07.HostSays", spec := "hostSays", unfollowed := true, recurses := true, plainKeys := false, apart := false, narrowed := true }
def HostSaysUptoSaid : Prop := hostSaysUptoRow.holds Try.pinned (OpenSpec.upto hostSaysSpec)

/-- 'stolonlaw07.HostGroups', WHERE WHAT IT READS IS OF BULK AT MOST 1048576: true; the input reads as it did. -/
def hostGroupsUptoRow : OpenClaim := { program := "ytmcbbccbonadjaa", sum := "2a691b17b96b01de5694c085e6fe17668534ad8932bac5521474cf182f04d0c4", func := "stolon/stolonlaw07.HostGroups", spec := "hostGroups", unfollowed := true, recurses := true, plainKeys := false, apart := false, narrowed := true }
def HostGroupsUptoSaid : Prop := hostGroupsUptoRow.holds Try.pinned (OpenSpec.upto hostGroupsSpec)

/-- 'stolonlaw07.HostTwo', WHERE WHAT IT READS IS OF BULK AT MOST 1048576: true; the input reads as it did. -/
def hostTwoUptoRow : OpenClaim := { program := "ytmcbbccbonadjaa", sum := "2a691b17b96b01de5694c085e6fe17668534ad8932bac5521474cf182f04d0c4", func := "stolon/stolonlaw07.HostTwo", spec := "hostTwo", unfollowed := true, recurses := true, plainKeys := false, apart := false, narrowed := true }
def HostTwoUptoSaid : Prop := hostTwoUptoRow.holds Try.pinned (OpenSpec.upto hostTwoSpec)

end Rows
end Go.Proofs.Ytmcbbccbonadjaa
