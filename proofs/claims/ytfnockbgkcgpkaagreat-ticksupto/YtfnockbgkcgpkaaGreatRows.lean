/-
  No cell of these rows narrows 'for every input' (looked for: loops, veiled, ifaces, maps, wideKeys, modest, calm, conditions, laid).
  DERIVED. THE GIVEN ROWS OF THIS SEAT. 4 by the template 'for every input the law returns true; each argument reads behind the call as it read before'; 0 by the template 'total and deterministic' (their statements: YtfnockbgkcgpkaaGreatTotals.lean).
  GIVEN WITH THE SEED: the statements are not yours to turn. If you find one false, say at which input.
  Laid BY PROGRAM, IN A SANDBOX (cutbox-rows.mjs): the forced cells as the released guide's own fill.sh prints them over the translation b1297c6e41899d0a… (all of the seat's roots in one cut). By AI agents, Wed Nov 11 2026. No macro, syntax, notation, axiom, sorry.
-/
import Derived.Test.YtfnockbgkcgpkaaGreatChecked
import GoSem.Claim
import GoSem.ClaimJoined
import GoSem.ClaimMapViews
import Derived.JoinedTies
import Derived.KernelRfl
namespace Go.Proofs.YtfnockbgkcgpkaaGreat
/- THE CELL 'sum', in the pinned program and in every row, IS THE sha256 OF THE DUMP (.gsa) THAT YtfnockbgkcgpkaaGreatProg.lean LOADS. Nothing in Lean hashes anything: it is a label: what it is worth is what the hold of that sum in a sandbox is worth. -/
noncomputable def Tryz.pinned : Pinned := { name := "ytfnockbgkcgpkaagreat", sum := "b1297c6e41899d0a8a49ba1133ee218735081c7098755d8829b422ea9d8d039e", checked := Tryz.checked }
namespace Rows
def none {H : Type} : Left H := { results := [], args := [] }

/-- 'paneslaw.Regions': WHATEVER THE INPUT: true; the input reads as it did. -/
def regionsSpec : ChangeSpec := { name := "regions", fn := fun _ => fun
  | [d1, d2] => { results := [.lit (.bool true)], args := [d1, d2] }
  | _ => none }
def regionsRow : OpenClaim := { program := "ytfnockbgkcgpkaagreat", sum := "b1297c6e41899d0a8a49ba1133ee218735081c7098755d8829b422ea9d8d039e", func := "panes/paneslaw.Regions", spec := "regions", inPlace := ["slices.overlaps[panes/scene.key]"], unfollowed := true, recurses := true, plainKeys := false, apart := false }
def RegionsSaid : Prop := regionsRow.holds Tryz.pinned (OpenSpec.ofChange regionsSpec)

/-- ITS FALSE NEIGHBOUR: 'it returns false'. Refute it at one input. -/
def regionsWrong : ChangeSpec := { name := "regions", fn := fun _ => fun
  | [d1, d2] => { results := [.lit (.bool false)], args := [d1, d2] }
  | _ => none }
def RegionsWrongFalsely : Prop := regionsRow.holds Tryz.pinned (OpenSpec.ofChange regionsWrong)

/-- 'paneslaw.Queues': WHATEVER THE INPUT: true; the input reads as it did. -/
def queuesSpec : ChangeSpec := { name := "queues", fn := fun _ => fun
  | [d1, d2] => { results := [.lit (.bool true)], args := [d1, d2] }
  | _ => none }
def queuesRow : OpenClaim := { program := "ytfnockbgkcgpkaagreat", sum := "b1297c6e41899d0a8a49ba1133ee218735081c7098755d8829b422ea9d8d039e", func := "panes/paneslaw.Queues", spec := "queues", inPlace := ["slices.overlaps[panes/scene.key]"], unfollowed := true, recurses := true, plainKeys := false, apart := false }
def QueuesSaid : Prop := queuesRow.holds Tryz.pinned (OpenSpec.ofChange queuesSpec)

/-- ITS FALSE NEIGHBOUR: 'it returns false'. Refute it at one input. -/
def queuesWrong : ChangeSpec := { name := "queues", fn := fun _ => fun
  | [d1, d2] => { results := [.lit (.bool false)], args := [d1, d2] }
  | _ => none }
def QueuesWrongFalsely : Prop := queuesRow.holds Tryz.pinned (OpenSpec.ofChange queuesWrong)

/-- 'paneslaw.Ticks': WHATEVER THE INPUT: true; the input reads as it did. -/
def ticksSpec : ChangeSpec := { name := "ticks", fn := fun _ => fun
  | [d1, d2] => { results := [.lit (.bool true)], args := [d1, d2] }
  | _ => none }
def ticksRow : OpenClaim := { program := "ytfnockbgkcgpkaagreat", sum := "b1297c6e41899d0a8a49ba1133ee218735081c7098755d8829b422ea9d8d039e", func := "panes/paneslaw.Ticks", spec := "ticks", inPlace := ["slices.overlaps[panes/scene.key]"], unfollowed := true, recurses := true, plainKeys := false, apart := false }
def TicksSaid : Prop := ticksRow.holds Tryz.pinned (OpenSpec.ofChange ticksSpec)

/-- ITS FALSE NEIGHBOUR: 'it returns false'. Refute it at one input. -/
def ticksWrong : ChangeSpec := { name := "ticks", fn := fun _ => fun
  | [d1, d2] => { results := [.lit (.bool false)], args := [d1, d2] }
  | _ => none }
def TicksWrongFalsely : Prop := ticksRow.holds Tryz.pinned (OpenSpec.ofChange ticksWrong)

/-- 'paneslaw.Shows': WHATEVER THE INPUT: true; the input reads as it did. -/
def showsSpec : ChangeSpec := { name := "shows", fn := fun _ => fun
  | [d1, d2] => { results := [.lit (.bool true)], args := [d1, d2] }
  | _ => none }
def showsRow : OpenClaim := { program := "ytfnockbgkcgpkaagreat", sum := "b1297c6e41899d0a8a49ba1133ee218735081c7098755d8829b422ea9d8d039e", func := "panes/paneslaw.Shows", spec := "shows", inPlace := ["slices.overlaps[panes/scene.key]"], unfollowed := true, recurses := true, plainKeys := false, apart := false }
def ShowsSaid : Prop := showsRow.holds Tryz.pinned (OpenSpec.ofChange showsSpec)

/-- ITS FALSE NEIGHBOUR: 'it returns false'. Refute it at one input. -/
def showsWrong : ChangeSpec := { name := "shows", fn := fun _ => fun
  | [d1, d2] => { results := [.lit (.bool false)], args := [d1, d2] }
  | _ => none }
def ShowsWrongFalsely : Prop := showsRow.holds Tryz.pinned (OpenSpec.ofChange showsWrong)

/- THE SECOND FORM. 'bulk': how many values and letters a reading holds, each counted each time it is reached (what is shared counts as often as it is met; a slice's spare places count too). A statement '..UptoSaid' is the law's where the arguments, and the package variables that the reading takes, are together of bulk at most 1048576: NARROWER than '..Said'. Prove '..Said' where nothing that the law and all that it calls make is longer than what came in: it says more and counts as full. Else prove '..UptoSaid'. A law counts once. -/
mutual
def uptoBulk {H : Type} : DataW H → Nat
  | .lit (.string bytes) => bytes.length + 1
  | .lit _ => 1
  | .nil => 1
  | .ptr d => uptoBulk d + 1
  | .slice elems spare => uptoBulkAll elems + uptoBulkAll spare + 1
  | .agg parts => uptoBulkAll parts + 1
  | .iface _ d => uptoBulk d + 1
  | .map entries => uptoBulkEntries entries + 1
  | .held _ => 1
def uptoBulkAll {H : Type} : List (DataW H) → Nat
  | [] => 0
  | d :: r => uptoBulk d + uptoBulkAll r
def uptoBulkEntries {H : Type} : List (Lit × DataW H) → Nat
  | [] => 0
  | x :: r => uptoBulkEntry x + uptoBulkEntries r
def uptoBulkEntry {H : Type} : Lit × DataW H → Nat
  | (.string bytes, d) => bytes.length + uptoBulk d + 1
  | (_, d) => uptoBulk d + 1
 end
def uptoSmall : (H : Type) → List (DataW H) → Bool := fun _ ds => decide (uptoBulkAll ds ≤ 1048576)
def OpenSpec.upto (s : _root_.Go.ChangeSpec) : _root_.Go.OpenSpec := { _root_.Go.OpenSpec.ofChange s with cond := some uptoSmall }

/-- 'paneslaw.Regions', WHERE WHAT IT READS IS OF BULK AT MOST 1048576: true; the input reads as it did. -/
def regionsUptoRow : OpenClaim := { program := "ytfnockbgkcgpkaagreat", sum := "b1297c6e41899d0a8a49ba1133ee218735081c7098755d8829b422ea9d8d039e", func := "panes/paneslaw.Regions", spec := "regions", inPlace := ["slices.overlaps[panes/scene.key]"], unfollowed := true, recurses := true, plainKeys := false, apart := false, narrowed := true }
def RegionsUptoSaid : Prop := regionsUptoRow.holds Tryz.pinned (OpenSpec.upto regionsSpec)

/-- 'paneslaw.Queues', WHERE WHAT IT READS IS OF BULK AT MOST 1048576: true; the input reads as it did. -/
def queuesUptoRow : OpenClaim := { program := "ytfnockbgkcgpkaagreat", sum := "b1297c6e41899d0a8a49ba1133ee218735081c7098755d8829b422ea9d8d039e", func := "panes/paneslaw.Queues", spec := "queues", inPlace := ["slices.overlaps[panes/scene.key]"], unfollowed := true, recurses := true, plainKeys := false, apart := false, narrowed := true }
def QueuesUptoSaid : Prop := queuesUptoRow.holds Tryz.pinned (OpenSpec.upto queuesSpec)

/-- 'paneslaw.Ticks', WHERE WHAT IT READS IS OF BULK AT MOST 1048576: true; the input reads as it did. -/
def ticksUptoRow : OpenClaim := { program := "ytfnockbgkcgpkaagreat", sum := "b1297c6e41899d0a8a49ba1133ee218735081c7098755d8829b422ea9d8d039e", func := "panes/paneslaw.Ticks", spec := "ticks", inPlace := ["slices.overlaps[panes/scene.key]"], unfollowed := true, recurses := true, plainKeys := false, apart := false, narrowed := true }
def TicksUptoSaid : Prop := ticksUptoRow.holds Tryz.pinned (OpenSpec.upto ticksSpec)

/-- 'paneslaw.Shows', WHERE WHAT IT READS IS OF BULK AT MOST 1048576: true; the input reads as it did. -/
def showsUptoRow : OpenClaim := { program := "ytfnockbgkcgpkaagreat", sum := "b1297c6e41899d0a8a49ba1133ee218735081c7098755d8829b422ea9d8d039e", func := "panes/paneslaw.Shows", spec := "shows", inPlace := ["slices.overlaps[panes/scene.key]"], unfollowed := true, recurses := true, plainKeys := false, apart := false, narrowed := true }
def ShowsUptoSaid : Prop := showsUptoRow.holds Tryz.pinned (OpenSpec.upto showsSpec)

end Rows
end Go.Proofs.YtfnockbgkcgpkaaGreat
