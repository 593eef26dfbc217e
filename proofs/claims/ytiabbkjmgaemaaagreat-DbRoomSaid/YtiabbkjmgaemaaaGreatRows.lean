/-
  No cell of these rows narrows 'for every input' (looked for: loops, veiled, ifaces, maps, wideKeys, modest, calm, conditions, laid).
  DERIVED. THE GIVEN ROWS OF THIS SEAT. 8 by the template 'for every input the law returns true; each argument reads behind the call as it read before'; 0 by the template 'total and deterministic' (their statements: YtiabbkjmgaemaaaGreatTotals.lean).
  GIVEN WITH THE SEED: the statements are not yours to turn. If you find one false, say at which input.
  Laid BY PROGRAM, IN A SANDBOX (cutbox-rows.mjs): the forced cells as the released guide's own fill.sh prints them over the translation 2eaf341f1707bbef… (all of the seat's roots in one cut). By AI agents, Wed Nov 11 2026. No macro, syntax, notation, axiom, sorry.
-/
import Derived.Test.YtiabbkjmgaemaaaGreatChecked
import GoSem.Claim
import GoSem.ClaimJoined
import GoSem.ClaimMapViews
import Derived.JoinedTies
import Derived.KernelRfl
namespace Go.Proofs.YtiabbkjmgaemaaaGreat
/- THE CELL 'sum', in the pinned program and in every row, IS THE sha256 OF THE DUMP (.gsa) THAT YtiabbkjmgaemaaaGreatProg.lean LOADS. Nothing in Lean hashes anything: it is a label: what it is worth is what the hold of that sum in a sandbox is worth. -/
noncomputable def Tryz.pinned : Pinned := { name := "ytiabbkjmgaemaaagreat", sum := "2eaf341f1707bbef36111f38ebf2a7badd40553cda2a99bdc8a45f7ee8251b04", checked := Tryz.checked }
namespace Rows
def none {H : Type} : Left H := { results := [], args := [] }

/-- 'stolonlaw08.MembHears': WHATEVER THE INPUT: true; the input reads as it did. -/
def membHearsSpec : ChangeSpec := { name := "membHears", fn := fun _ => fun
  | [d] => { results := [.lit (.bool true)], args := [d] }
  | _ => none }
def membHearsRow : OpenClaim := { program := "ytiabbkjmgaemaaagreat", sum := "2eaf341f1707bbef36111f38ebf2a7badd40553cda2a99bdc8a45f7ee8251b04", func := "stolon/stolonlaw08.MembHears", spec := "membHears", inPlace := ["internal/reflectlite.ValueOf", "internal/reflectlite.Swapper", "(internal/reflectlite.Value).Len"], unfollowed := true, recurses := true, apart := false }
def MembHearsSaid : Prop := membHearsRow.holds Tryz.pinned (OpenSpec.ofChange membHearsSpec)

/-- ITS FALSE NEIGHBOUR: 'it returns false'. Refute it at one input. -/
def membHearsWrong : ChangeSpec := { name := "membHears", fn := fun _ => fun
  | [d] => { results := [.lit (.bool false)], args := [d] }
  | _ => none }
def MembHearsWrongFalsely : Prop := membHearsRow.holds Tryz.pinned (OpenSpec.ofChange membHearsWrong)

/-- 'stolonlaw09.DbHears': WHATEVER THE INPUT: true; the input reads as it did. -/
def dbHearsSpec : ChangeSpec := { name := "dbHears", fn := fun _ => fun
  | [d1, d2, d3] => { results := [.lit (.bool true)], args := [d1, d2, d3] }
  | _ => none }
def dbHearsRow : OpenClaim := { program := "ytiabbkjmgaemaaagreat", sum := "2eaf341f1707bbef36111f38ebf2a7badd40553cda2a99bdc8a45f7ee8251b04", func := "stolon/stolonlaw09.DbHears", spec := "dbHears", inPlace := ["internal/reflectlite.ValueOf", "internal/reflectlite.Swapper", "(internal/reflectlite.Value).Len", "sync/atomic.AddInt64", "sync/atomic.LoadInt64"], unfollowed := true, recurses := true, apart := false }
def DbHearsSaid : Prop := dbHearsRow.holds Tryz.pinned (OpenSpec.ofChange dbHearsSpec)

/-- ITS FALSE NEIGHBOUR: 'it returns false'. Refute it at one input. -/
def dbHearsWrong : ChangeSpec := { name := "dbHears", fn := fun _ => fun
  | [d1, d2, d3] => { results := [.lit (.bool false)], args := [d1, d2, d3] }
  | _ => none }
def DbHearsWrongFalsely : Prop := dbHearsRow.holds Tryz.pinned (OpenSpec.ofChange dbHearsWrong)

/-- 'stolonlaw09.DbTells': WHATEVER THE INPUT: true; the input reads as it did. -/
def dbTellsSpec : ChangeSpec := { name := "dbTells", fn := fun _ => fun
  | [d] => { results := [.lit (.bool true)], args := [d] }
  | _ => none }
def dbTellsRow : OpenClaim := { program := "ytiabbkjmgaemaaagreat", sum := "2eaf341f1707bbef36111f38ebf2a7badd40553cda2a99bdc8a45f7ee8251b04", func := "stolon/stolonlaw09.DbTells", spec := "dbTells", inPlace := ["internal/reflectlite.ValueOf", "internal/reflectlite.Swapper", "(internal/reflectlite.Value).Len", "sync/atomic.AddInt64", "sync/atomic.LoadInt64"], unfollowed := true, recurses := true, apart := false }
def DbTellsSaid : Prop := dbTellsRow.holds Tryz.pinned (OpenSpec.ofChange dbTellsSpec)

/-- ITS FALSE NEIGHBOUR: 'it returns false'. Refute it at one input. -/
def dbTellsWrong : ChangeSpec := { name := "dbTells", fn := fun _ => fun
  | [d] => { results := [.lit (.bool false)], args := [d] }
  | _ => none }
def DbTellsWrongFalsely : Prop := dbTellsRow.holds Tryz.pinned (OpenSpec.ofChange dbTellsWrong)

/-- 'stolonlaw09.DbStays': WHATEVER THE INPUT: true; the input reads as it did. -/
def dbStaysSpec : ChangeSpec := { name := "dbStays", fn := fun _ => fun
  | [d] => { results := [.lit (.bool true)], args := [d] }
  | _ => none }
def dbStaysRow : OpenClaim := { program := "ytiabbkjmgaemaaagreat", sum := "2eaf341f1707bbef36111f38ebf2a7badd40553cda2a99bdc8a45f7ee8251b04", func := "stolon/stolonlaw09.DbStays", spec := "dbStays", inPlace := ["internal/reflectlite.ValueOf", "internal/reflectlite.Swapper", "(internal/reflectlite.Value).Len", "sync/atomic.AddInt64", "sync/atomic.LoadInt64"], unfollowed := true, recurses := true, apart := false }
def DbStaysSaid : Prop := dbStaysRow.holds Tryz.pinned (OpenSpec.ofChange dbStaysSpec)

/-- ITS FALSE NEIGHBOUR: 'it returns false'. Refute it at one input. -/
def dbStaysWrong : ChangeSpec := { name := "dbStays", fn := fun _ => fun
  | [d] => { results := [.lit (.bool false)], args := [d] }
  | _ => none }
def DbStaysWrongFalsely : Prop := dbStaysRow.holds Tryz.pinned (OpenSpec.ofChange dbStaysWrong)

/-- 'stolonlaw09.DbPorts': WHATEVER THE INPUT: true; the input reads as it did. -/
def dbPortsSpec : ChangeSpec := { name := "dbPorts", fn := fun _ => fun
  | [d1, d2, d3] => { results := [.lit (.bool true)], args := [d1, d2, d3] }
  | _ => none }
def dbPortsRow : OpenClaim := { program := "ytiabbkjmgaemaaagreat", sum := "2eaf341f1707bbef36111f38ebf2a7badd40553cda2a99bdc8a45f7ee8251b04", func := "stolon/stolonlaw09.DbPorts", spec := "dbPorts", inPlace := ["internal/reflectlite.ValueOf", "internal/reflectlite.Swapper", "(internal/reflectlite.Value).Len", "sync/atomic.AddInt64", "sync/atomic.LoadInt64"], unfollowed := true, recurses := true, apart := false }
def DbPortsSaid : Prop := dbPortsRow.holds Tryz.pinned (OpenSpec.ofChange dbPortsSpec)

/-- ITS FALSE NEIGHBOUR: 'it returns false'. Refute it at one input. -/
def dbPortsWrong : ChangeSpec := { name := "dbPorts", fn := fun _ => fun
  | [d1, d2, d3] => { results := [.lit (.bool false)], args := [d1, d2, d3] }
  | _ => none }
def DbPortsWrongFalsely : Prop := dbPortsRow.holds Tryz.pinned (OpenSpec.ofChange dbPortsWrong)

/-- 'stolonlaw09.DbVersions': WHATEVER THE INPUT: true; the input reads as it did. -/
def dbVersionsSpec : ChangeSpec := { name := "dbVersions", fn := fun _ => fun
  | [d] => { results := [.lit (.bool true)], args := [d] }
  | _ => none }
def dbVersionsRow : OpenClaim := { program := "ytiabbkjmgaemaaagreat", sum := "2eaf341f1707bbef36111f38ebf2a7badd40553cda2a99bdc8a45f7ee8251b04", func := "stolon/stolonlaw09.DbVersions", spec := "dbVersions", inPlace := ["internal/reflectlite.ValueOf", "internal/reflectlite.Swapper", "(internal/reflectlite.Value).Len", "sync/atomic.AddInt64", "sync/atomic.LoadInt64"], unfollowed := true, recurses := true, apart := false }
def DbVersionsSaid : Prop := dbVersionsRow.holds Tryz.pinned (OpenSpec.ofChange dbVersionsSpec)

/-- ITS FALSE NEIGHBOUR: 'it returns false'. Refute it at one input. -/
def dbVersionsWrong : ChangeSpec := { name := "dbVersions", fn := fun _ => fun
  | [d] => { results := [.lit (.bool false)], args := [d] }
  | _ => none }
def DbVersionsWrongFalsely : Prop := dbVersionsRow.holds Tryz.pinned (OpenSpec.ofChange dbVersionsWrong)

/-- 'stolonlaw09.DbRoom': WHATEVER THE INPUT: true; the input reads as it did. -/
def dbRoomSpec : ChangeSpec := { name := "dbRoom", fn := fun _ => fun
  | [d1, d2, d3] => { results := [.lit (.bool true)], args := [d1, d2, d3] }
  | _ => none }
def dbRoomRow : OpenClaim := { program := "ytiabbkjmgaemaaagreat", sum := "2eaf341f1707bbef36111f38ebf2a7badd40553cda2a99bdc8a45f7ee8251b04", func := "stolon/stolonlaw09.DbRoom", spec := "dbRoom", inPlace := ["internal/reflectlite.ValueOf", "internal/reflectlite.Swapper", "(internal/reflectlite.Value).Len", "sync/atomic.AddInt64", "sync/atomic.LoadInt64"], unfollowed := true, recurses := true, apart := false }
def DbRoomSaid : Prop := dbRoomRow.holds Tryz.pinned (OpenSpec.ofChange dbRoomSpec)

/-- ITS FALSE NEIGHBOUR: 'it returns false'. Refute it at one input. -/
def dbRoomWrong : ChangeSpec := { name := "dbRoom", fn := fun _ => fun
  | [d1, d2, d3] => { results := [.lit (.bool false)], args := [d1, d2, d3] }
  | _ => none }
def DbRoomWrongFalsely : Prop := dbRoomRow.holds Tryz.pinned (OpenSpec.ofChange dbRoomWrong)

/-- 'stolonlaw09.DbTicks': WHATEVER THE INPUT: true; the input reads as it did. -/
def dbTicksSpec : ChangeSpec := { name := "dbTicks", fn := fun _ => fun
  | [d1, d2, d3] => { results := [.lit (.bool true)], args := [d1, d2, d3] }
  | _ => none }
def dbTicksRow : OpenClaim := { program := "ytiabbkjmgaemaaagreat", sum := "2eaf341f1707bbef36111f38ebf2a7badd40553cda2a99bdc8a45f7ee8251b04", func := "stolon/stolonlaw09.DbTicks", spec := "dbTicks", inPlace := ["internal/reflectlite.ValueOf", "internal/reflectlite.Swapper", "(internal/reflectlite.Value).Len", "sync/atomic.AddInt64", "sync/atomic.LoadInt64"], unfollowed := true, recurses := true, apart := false }
def DbTicksSaid : Prop := dbTicksRow.holds Tryz.pinned (OpenSpec.ofChange dbTicksSpec)

/-- ITS FALSE NEIGHBOUR: 'it returns false'. Refute it at one input. -/
def dbTicksWrong : ChangeSpec := { name := "dbTicks", fn := fun _ => fun
  | [d1, d2, d3] => { results := [.lit (.bool false)], args := [d1, d2, d3] }
  | _ => none }
def DbTicksWrongFalsely : Prop := dbTicksRow.holds Tryz.pinned (OpenSpec.ofChange dbTicksWrong)

/- THE SECOND FORM. 'bulk': how many values and letters a reading holds, each counted each time it is reached (what is shared counts as often as it is met; a slice's spare places count too). A statement '..UptoSaid' is the law's where the arguments, and the package variables that the reading takes, are together of bulk at most 1048576: NARROWER than '..Said'. Prove '..Said' where nothing that the law and all that it calls make is longer than what came in: it says more and counts as full. Else prove '..UptoSaid'. A law counts once. -/
mutual
def uptoBulk {H : Type} : DataW H → Nat
  | .lit (.string bytes) => bytes.length + 1
  | .lit _ => 1
  | .nil => 1
  | .ptr d => uptoBulk d + 1
  | .slice elems spare => uptoBulkAll elems + uptoBulkAll spare + 1
  | .agg parts => uptoBulkAll parts + 1
  | .iface _ d => uptoBulk d + 1
  | .map entries => uptoBulkEntries entries + 1
  | .held _ => 1
def uptoBulkAll {H : Type} : List (DataW H) → Nat
  | [] => 0
  | d :: r => uptoBulk d + uptoBulkAll r
def uptoBulkEntries {H : Type} : List (Lit × DataW H) → Nat
  | [] => 0
  | x :: r => uptoBulkEntry x + uptoBulkEntries r
def uptoBulkEntry {H : Type} : Lit × DataW H → Nat
  | (.string bytes, d) => bytes.length + uptoBulk d + 1
  | (_, d) => uptoBulk d + 1
 end
def uptoSmall : (H : Type) → List (DataW H) → Bool := fun _ ds => decide (uptoBulkAll ds ≤ 1048576)
def OpenSpec.upto (s : _root_.Go.ChangeSpec) : _root_.Go.OpenSpec := { _root_.Go.OpenSpec.ofChange s with cond := some uptoSmall }

/-- 'stolonlaw08.MembHears', WHERE WHAT IT READS IS OF BULK AT MOST 1048576: true; the input reads as it did. -/
def membHearsUptoRow : OpenClaim := { program := "ytiabbkjmgaemaaagreat", sum := "2eaf341f1707bbef36111f38ebf2a7badd40553cda2a99bdc8a45f7ee8251b04", func := "stolon/stolonlaw08.MembHears", spec := "membHears", inPlace := ["internal/reflectlite.ValueOf", "internal/reflectlite.Swapper", "(internal/reflectlite.Value).Len"], unfollowed := true, recurses := true, apart := false, narrowed := true }
def MembHearsUptoSaid : Prop := membHearsUptoRow.holds Tryz.pinned (OpenSpec.upto membHearsSpec)

/-- 'stolonlaw09.DbHears', WHERE WHAT IT READS IS OF BULK AT MOST 1048576: true; the input reads as it did. -/
def dbHearsUptoRow : OpenClaim := { program := "ytiabbkjmgaemaaagreat", sum := "2eaf341f1707bbef36111f38ebf2a7badd40553cda2a99bdc8a45f7ee8251b04", func := "stolon/stolonlaw09.DbHears", spec := "dbHears", inPlace := ["internal/reflectlite.ValueOf", "internal/reflectlite.Swapper", "(internal/reflectlite.Value).Len", "sync/atomic.AddInt64", "sync/atomic.LoadInt64"], unfollowed := true, recurses := true, apart := false, narrowed := true }
def DbHearsUptoSaid : Prop := dbHearsUptoRow.holds Tryz.pinned (OpenSpec.upto dbHearsSpec)

/-- 'stolonlaw09.DbTells', WHERE WHAT IT READS IS OF BULK AT MOST 1048576: true; the input reads as it did. -/
def dbTellsUptoRow : OpenClaim := { program := "ytiabbkjmgaemaaagreat", sum := "2eaf341f1707bbef36111f38ebf2a7badd40553cda2a99bdc8a45f7ee8251b04", func := "stolon/stolonlaw09.DbTells", spec := "dbTells", inPlace := ["internal/reflectlite.ValueOf", "internal/reflectlite.Swapper", "(internal/reflectlite.Value).Len", "sync/atomic.AddInt64", "sync/atomic.LoadInt64"], unfollowed := true, recurses := true, apart := false, narrowed := true }
def DbTellsUptoSaid : Prop := dbTellsUptoRow.holds Tryz.pinned (OpenSpec.upto dbTellsSpec)

/-- 'stolonlaw09.DbStays', WHERE WHAT IT READS IS OF BULK AT MOST 1048576: true; the input reads as it did. -/
def dbStaysUptoRow : OpenClaim := { program := "ytiabbkjmgaemaaagreat", sum := "2eaf341f1707bbef36111f38ebf2a7badd40553cda2a99bdc8a45f7ee8251b04", func := "stolon/stolonlaw09.DbStays", spec := "dbStays", inPlace := ["internal/reflectlite.ValueOf", "internal/reflectlite.Swapper", "(internal/reflectlite.Value).Len", "sync/atomic.AddInt64", "sync/atomic.LoadInt64"], unfollowed := true, recurses := true, apart := false, narrowed := true }
def DbStaysUptoSaid : Prop := dbStaysUptoRow.holds Tryz.pinned (OpenSpec.upto dbStaysSpec)

/-- 'stolonlaw09.DbPorts', WHERE WHAT IT READS IS OF BULK AT MOST 1048576: true; the input reads as it did. -/
def dbPortsUptoRow : OpenClaim := { program := "ytiabbkjmgaemaaagreat", sum := "2eaf341f1707bbef36111f38ebf2a7badd40553cda2a99bdc8a45f7ee8251b04", func := "stolon/stolonlaw09.DbPorts", spec := "dbPorts", inPlace := ["internal/reflectlite.ValueOf", "internal/reflectlite.Swapper", "(internal/reflectlite.Value).Len", "sync/atomic.AddInt64", "sync/atomic.LoadInt64"], unfollowed := true, recurses := true, apart := false, narrowed := true }
def DbPortsUptoSaid : Prop := dbPortsUptoRow.holds Tryz.pinned (OpenSpec.upto dbPortsSpec)

/-- 'stolonlaw09.DbVersions', WHERE WHAT IT READS IS OF BULK AT MOST 1048576: true; the input reads as it did. -/
def dbVersionsUptoRow : OpenClaim := { program := "ytiabbkjmgaemaaagreat", sum := "2eaf341f1707bbef36111f38ebf2a7badd40553cda2a99bdc8a45f7ee8251b04", func := "stolon/stolonlaw09.DbVersions", spec := "dbVersions", inPlace := ["internal/reflectlite.ValueOf", "internal/reflectlite.Swapper", "(internal/reflectlite.Value).Len", "sync/atomic.AddInt64", "sync/atomic.LoadInt64"], unfollowed := true, recurses := true, apart := false, narrowed := true }
def DbVersionsUptoSaid : Prop := dbVersionsUptoRow.holds Tryz.pinned (OpenSpec.upto dbVersionsSpec)

/-- 'stolonlaw09.DbRoom', WHERE WHAT IT READS IS OF BULK AT MOST 1048576: true; the input reads as it did. -/
def dbRoomUptoRow : OpenClaim := { program := "ytiabbkjmgaemaaagreat", sum := "2eaf341f1707bbef36111f38ebf2a7badd40553cda2a99bdc8a45f7ee8251b04", func := "stolon/stolonlaw09.DbRoom", spec := "dbRoom", inPlace := ["internal/reflectlite.ValueOf", "internal/reflectlite.Swapper", "(internal/reflectlite.Value).Len", "sync/atomic.AddInt64", "sync/atomic.LoadInt64"], unfollowed := true, recurses := true, apart := false, narrowed := true }
def DbRoomUptoSaid : Prop := dbRoomUptoRow.holds Tryz.pinned (OpenSpec.upto dbRoomSpec)

/-- 'stolonlaw09.DbTicks', WHERE WHAT IT READS IS OF BULK AT MOST 1048576: true; the input reads as it did. -/
def dbTicksUptoRow : OpenClaim := { program := "ytiabbkjmgaemaaagreat", sum := "2eaf341f1707bbef36111f38ebf2a7badd40553cda2a99bdc8a45f7ee8251b04", func := "stolon/stolonlaw09.DbTicks", spec := "dbTicks", inPlace := ["internal/reflectlite.ValueOf", "internal/reflectlite.Swapper", "(internal/reflectlite.Value).Len", "sync/atomic.AddInt64", "sync/atomic.LoadInt64"], unfollowed := true, recurses := true, apart := false, narrowed := true }
def DbTicksUptoSaid : Prop := dbTicksUptoRow.holds Tryz.pinned (OpenSpec.upto dbTicksSpec)

end Rows
end Go.Proofs.YtiabbkjmgaemaaaGreat
