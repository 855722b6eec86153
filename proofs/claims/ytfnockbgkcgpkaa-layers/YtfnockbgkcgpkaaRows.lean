/-
  No cell of these rows narrows 'for every input' (looked for: loops, veiled, ifaces, maps, wideKeys, modest, calm, conditions, laid).
  DERIVED. THE GIVEN ROWS OF THIS SEAT. 8 by the template 'for every input the law returns true; each argument reads behind the call as it read before'; 0 by the template 'total and deterministic' (their statements: YtfnockbgkcgpkaaTotals.lean).
  GIVEN WITH THE SEED: the statements are not yours to turn. If you find one false, say at which input.
  Laid BY PROGRAM, IN A SANDBOX (cutbox-rows.mjs): the forced cells as the released guide's own fill.sh prints them over the translation 06db25b2f938ab8e… (all of the seat's roots in one cut). By AI agents, Wed Nov 11 2026. No macro, syntax, notation, axiom, sorry.
-/
import Derived.Test.YtfnockbgkcgpkaaChecked
import GoSem.Claim
import GoSem.ClaimJoined
import GoSem.ClaimMapViews
import Derived.JoinedTies
import Derived.KernelRfl
namespace Go.Proofs.Ytfnockbgkcgpkaa
/- THE CELL 'sum', in the pinned program and in every row, IS THE sha256 OF THE DUMP (.gsa) THAT YtfnockbgkcgpkaaProg.lean LOADS. Nothing in Lean hashes anything: it is a label: what it is worth is what the hold of that sum in a sandbox is worth. -/
noncomputable def Try.pinned : Pinned := { name := "ytfnockbgkcgpkaa", sum := "06db25b2f938ab8ea25cf8dc623d709ae8fba6eeed3e3d7601b33182b642d5a7", checked := Try.checked }
namespace Rows
def none {H : Type} : Left H := { results := [], args := [] }

/-- 'paneskeep.Covered': WHATEVER THE INPUT: true; the input reads as it did. -/
def coveredSpec : ChangeSpec := { name := "covered", fn := fun _ => fun
  | [d1, d2, d3] => { results := [.lit (.bool true)], args := [d1, d2, d3] }
  | _ => none }
def coveredRow : OpenClaim := { program := "ytfnockbgkcgpkaa", sum := "06db25b2f938ab8ea25cf8dc623d709ae8fba6eeed3e3d7601b33182b642d5a7", func := "panes/paneskeep.Covered", spec := "covered", unfollowed := true, recurses := true, plainKeys := false, apart := false }
def CoveredSaid : Prop := coveredRow.holds Try.pinned (OpenSpec.ofChange coveredSpec)

/-- ITS FALSE NEIGHBOUR: 'it returns false'. Refute it at one input. -/
def coveredWrong : ChangeSpec := { name := "covered", fn := fun _ => fun
  | [d1, d2, d3] => { results := [.lit (.bool false)], args := [d1, d2, d3] }
  | _ => none }
def CoveredWrongFalsely : Prop := coveredRow.holds Try.pinned (OpenSpec.ofChange coveredWrong)

/-- 'paneskeep.Twice': WHATEVER THE INPUT: true; the input reads as it did. -/
def twiceSpec : ChangeSpec := { name := "twice", fn := fun _ => fun
  | [d1, d2] => { results := [.lit (.bool true)], args := [d1, d2] }
  | _ => none }
def twiceRow : OpenClaim := { program := "ytfnockbgkcgpkaa", sum := "06db25b2f938ab8ea25cf8dc623d709ae8fba6eeed3e3d7601b33182b642d5a7", func := "panes/paneskeep.Twice", spec := "twice", unfollowed := true, recurses := true, plainKeys := false, apart := false }
def TwiceSaid : Prop := twiceRow.holds Try.pinned (OpenSpec.ofChange twiceSpec)

/-- ITS FALSE NEIGHBOUR: 'it returns false'. Refute it at one input. -/
def twiceWrong : ChangeSpec := { name := "twice", fn := fun _ => fun
  | [d1, d2] => { results := [.lit (.bool false)], args := [d1, d2] }
  | _ => none }
def TwiceWrongFalsely : Prop := twiceRow.holds Try.pinned (OpenSpec.ofChange twiceWrong)

/-- 'paneskeep.Asked': WHATEVER THE INPUT: true; the input reads as it did. -/
def askedSpec : ChangeSpec := { name := "asked", fn := fun _ => fun
  | [d1, d2, d3] => { results := [.lit (.bool true)], args := [d1, d2, d3] }
  | _ => none }
def askedRow : OpenClaim := { program := "ytfnockbgkcgpkaa", sum := "06db25b2f938ab8ea25cf8dc623d709ae8fba6eeed3e3d7601b33182b642d5a7", func := "panes/paneskeep.Asked", spec := "asked", inPlace := ["slices.overlaps[panes/scene.key]"], unfollowed := true, recurses := true, plainKeys := false, apart := false }
def AskedSaid : Prop := askedRow.holds Try.pinned (OpenSpec.ofChange askedSpec)

/-- ITS FALSE NEIGHBOUR: 'it returns false'. Refute it at one input. -/
def askedWrong : ChangeSpec := { name := "asked", fn := fun _ => fun
  | [d1, d2, d3] => { results := [.lit (.bool false)], args := [d1, d2, d3] }
  | _ => none }
def AskedWrongFalsely : Prop := askedRow.holds Try.pinned (OpenSpec.ofChange askedWrong)

/-- 'paneskeep.Fair': WHATEVER THE INPUT: true; the input reads as it did. -/
def fairSpec : ChangeSpec := { name := "fair", fn := fun _ => fun
  | [d1, d2, d3] => { results := [.lit (.bool true)], args := [d1, d2, d3] }
  | _ => none }
def fairRow : OpenClaim := { program := "ytfnockbgkcgpkaa", sum := "06db25b2f938ab8ea25cf8dc623d709ae8fba6eeed3e3d7601b33182b642d5a7", func := "panes/paneskeep.Fair", spec := "fair", inPlace := ["slices.overlaps[panes/scene.key]"], unfollowed := true, recurses := true, plainKeys := false, apart := false }
def FairSaid : Prop := fairRow.holds Try.pinned (OpenSpec.ofChange fairSpec)

/-- ITS FALSE NEIGHBOUR: 'it returns false'. Refute it at one input. -/
def fairWrong : ChangeSpec := { name := "fair", fn := fun _ => fun
  | [d1, d2, d3] => { results := [.lit (.bool false)], args := [d1, d2, d3] }
  | _ => none }
def FairWrongFalsely : Prop := fairRow.holds Try.pinned (OpenSpec.ofChange fairWrong)

/-- 'paneskeep.Soon': WHATEVER THE INPUT: true; the input reads as it did. -/
def soonSpec : ChangeSpec := { name := "soon", fn := fun _ => fun
  | [d1, d2, d3, d4] => { results := [.lit (.bool true)], args := [d1, d2, d3, d4] }
  | _ => none }
def soonRow : OpenClaim := { program := "ytfnockbgkcgpkaa", sum := "06db25b2f938ab8ea25cf8dc623d709ae8fba6eeed3e3d7601b33182b642d5a7", func := "panes/paneskeep.Soon", spec := "soon", inPlace := ["slices.overlaps[panes/scene.key]"], unfollowed := true, recurses := true, plainKeys := false, apart := false }
def SoonSaid : Prop := soonRow.holds Try.pinned (OpenSpec.ofChange soonSpec)

/-- ITS FALSE NEIGHBOUR: 'it returns false'. Refute it at one input. -/
def soonWrong : ChangeSpec := { name := "soon", fn := fun _ => fun
  | [d1, d2, d3, d4] => { results := [.lit (.bool false)], args := [d1, d2, d3, d4] }
  | _ => none }
def SoonWrongFalsely : Prop := soonRow.holds Try.pinned (OpenSpec.ofChange soonWrong)

/-- 'paneskeep.Whole': WHATEVER THE INPUT: true; the input reads as it did. -/
def wholeSpec : ChangeSpec := { name := "whole", fn := fun _ => fun
  | [d1, d2, d3, d4] => { results := [.lit (.bool true)], args := [d1, d2, d3, d4] }
  | _ => none }
def wholeRow : OpenClaim := { program := "ytfnockbgkcgpkaa", sum := "06db25b2f938ab8ea25cf8dc623d709ae8fba6eeed3e3d7601b33182b642d5a7", func := "panes/paneskeep.Whole", spec := "whole", inPlace := ["slices.overlaps[panes/scene.key]"], unfollowed := true, recurses := true, plainKeys := false, apart := false }
def WholeSaid : Prop := wholeRow.holds Try.pinned (OpenSpec.ofChange wholeSpec)

/-- ITS FALSE NEIGHBOUR: 'it returns false'. Refute it at one input. -/
def wholeWrong : ChangeSpec := { name := "whole", fn := fun _ => fun
  | [d1, d2, d3, d4] => { results := [.lit (.bool false)], args := [d1, d2, d3, d4] }
  | _ => none }
def WholeWrongFalsely : Prop := wholeRow.holds Try.pinned (OpenSpec.ofChange wholeWrong)

/-- 'paneskeep.Layers': WHATEVER THE INPUT: true; the input reads as it did. -/
def layersSpec : ChangeSpec := { name := "layers", fn := fun _ => fun
  | [d1, d2, d3, d4] => { results := [.lit (.bool true)], args := [d1, d2, d3, d4] }
  | _ => none }
def layersRow : OpenClaim := { program := "ytfnockbgkcgpkaa", sum := "06db25b2f938ab8ea25cf8dc623d709ae8fba6eeed3e3d7601b33182b642d5a7", func := "panes/paneskeep.Layers", spec := "layers", inPlace := ["slices.overlaps[panes/scene.key]"], unfollowed := true, recurses := true, plainKeys := false, apart := false }
def LayersSaid : Prop := layersRow.holds Try.pinned (OpenSpec.ofChange layersSpec)

/-- ITS FALSE NEIGHBOUR: 'it returns false'. Refute it at one input. -/
def layersWrong : ChangeSpec := { name := "layers", fn := fun _ => fun
  | [d1, d2, d3, d4] => { results := [.lit (.bool false)], args := [d1, d2, d3, d4] }
  | _ => none }
def LayersWrongFalsely : Prop := layersRow.holds Try.pinned (OpenSpec.ofChange layersWrong)

/-- 'paneskeep.Apart': WHATEVER THE INPUT: true; the input reads as it did. -/
def apartSpec : ChangeSpec := { name := "apart", fn := fun _ => fun
  | [d1, d2, d3] => { results := [.lit (.bool true)], args := [d1, d2, d3] }
  | _ => none }
def apartRow : OpenClaim := { program := "ytfnockbgkcgpkaa", sum := "06db25b2f938ab8ea25cf8dc623d709ae8fba6eeed3e3d7601b33182b642d5a7", func := "panes/paneskeep.Apart", spec := "apart", inPlace := ["slices.overlaps[panes/scene.key]"], unfollowed := true, recurses := true, plainKeys := false, apart := false }
def ApartSaid : Prop := apartRow.holds Try.pinned (OpenSpec.ofChange apartSpec)

/-- ITS FALSE NEIGHBOUR: 'it returns false'. Refute it at one input. -/
def apartWrong : ChangeSpec := { name := "apart", fn := fun _ => fun
  | [d1, d2, d3] => { results := [.lit (.bool false)], args := [d1, d2, d3] }
  | _ => none }
def ApartWrongFalsely : Prop := apartRow.holds Try.pinned (OpenSpec.ofChange apartWrong)

/- THE SECOND FORM. 'bulk': how many values and letters a reading holds, each counted each time it is reached (what is shared counts as often as it is met; a slice's spare places count too). A statement '..UptoSaid' is the law's where the arguments, and the package variables that the reading takes, are together of bulk at most 1048576: NARROWER than '..Said'. Prove '..Said' where nothing that the law and all that it calls make is longer than what came in: it says more and counts as full. Else prove '..UptoSaid'. A law counts once. -/
mutual
def uptoBulk {H : Type} : DataW H → Nat
  | .lit (.string bytes) => bytes.length + 1
  | .lit _ => 1
  | .nil => 1
  | .ptr d => uptoBulk d + 1
  | .slice elems spare => uptoBulkAll elems + uptoBulkAll spare + 1
  | .agg parts => uptoBulkAll parts + 1
  | .iface _ d => uptoBulk d + 1
  | .map entries => uptoBulkEntries entries + 1
  | .held _ => 1
def uptoBulkAll {H : Type} : List (DataW H) → Nat
  | [] => 0
  | d :: r => uptoBulk d + uptoBulkAll r
def uptoBulkEntries {H : Type} : List (Lit × DataW H) → Nat
  | [] => 0
  | x :: r => uptoBulkEntry x + uptoBulkEntries r
def uptoBulkEntry {H : Type} : Lit × DataW H → Nat
  | (.string bytes, d) => bytes.length + uptoBulk d + 1
  | (_, d) => uptoBulk d + 1
 end
def uptoSmall : (H : Type) → List (DataW H) → Bool := fun _ ds => decide (uptoBulkAll ds ≤ 1048576)
def OpenSpec.upto (s : _root_.Go.ChangeSpec) : _root_.Go.OpenSpec := { _root_.Go.OpenSpec.ofChange s with cond := some uptoSmall }

/-- 'paneskeep.Covered', WHERE WHAT IT READS IS OF BULK AT MOST 1048576: true; the input reads as it did. -/
def coveredUptoRow : OpenClaim := { program := "ytfnockbgkcgpkaa", sum := "06db25b2f938ab8ea25cf8dc623d709ae8fba6eeed3e3d7601b33182b642d5a7", func := "panes/paneskeep.Covered", spec := "covered", unfollowed := true, recurses := true, plainKeys := false, apart := false, narrowed := true }
def CoveredUptoSaid : Prop := coveredUptoRow.holds Try.pinned (OpenSpec.upto coveredSpec)

/-- 'paneskeep.Twice', WHERE WHAT IT READS IS OF BULK AT MOST 1048576: true; the input reads as it did. -/
def twiceUptoRow : OpenClaim := { program := "ytfnockbgkcgpkaa", sum := "06db25b2f938ab8ea25cf8dc623d709ae8fba6eeed3e3d7601b33182b642d5a7", func := "panes/paneskeep.Twice", spec := "twice", unfollowed := true, recurses := true, plainKeys := false, apart := false, narrowed := true }
def TwiceUptoSaid : Prop := twiceUptoRow.holds Try.pinned (OpenSpec.upto twiceSpec)

/-- 'paneskeep.Asked', WHERE WHAT IT READS IS OF BULK AT MOST 1048576: true; the input reads as it did. -/
def askedUptoRow : OpenClaim := { program := "ytfnockbgkcgpkaa", sum := "06db25b2f938ab8ea25cf8dc623d709ae8fba6eeed3e3d7601b33182b642d5a7", func := "panes/paneskeep.Asked", spec := "asked", inPlace := ["slices.overlaps[panes/scene.key]"], unfollowed := true, recurses := true, plainKeys := false, apart := false, narrowed := true }
def AskedUptoSaid : Prop := askedUptoRow.holds Try.pinned (OpenSpec.upto askedSpec)

/-- 'paneskeep.Fair', WHERE WHAT IT READS IS OF BULK AT MOST 1048576: true; the input reads as it did. -/
def fairUptoRow : OpenClaim := { program := "ytfnockbgkcgpkaa", sum := "06db25b2f938ab8ea25cf8dc623d709ae8fba6eeed3e3d7601b33182b642d5a7", func := "panes/paneskeep.Fair", spec := "fair", inPlace := ["slices.overlaps[panes/scene.key]"], unfollowed := true, recurses := true, plainKeys := false, apart := false, narrowed := true }
def FairUptoSaid : Prop := fairUptoRow.holds Try.pinned (OpenSpec.upto fairSpec)

/-- 'paneskeep.Soon', WHERE WHAT IT READS IS OF BULK AT MOST 1048576: true; the input reads as it did. -/
def soonUptoRow : OpenClaim := { program := "ytfnockbgkcgpkaa", sum := "06db25b2f938ab8ea25cf8dc623d709ae8fba6eeed3e3d7601b33182b642d5a7", func := "panes/paneskeep.Soon", spec := "soon", inPlace := ["slices.overlaps[panes/scene.key]"], unfollowed := true, recurses := true, plainKeys := false, apart := false, narrowed := true }
def SoonUptoSaid : Prop := soonUptoRow.holds Try.pinned (OpenSpec.upto soonSpec)

/-- 'paneskeep.Whole', WHERE WHAT IT READS IS OF BULK AT MOST 1048576: true; the input reads as it did. -/
def wholeUptoRow : OpenClaim := { program := "ytfnockbgkcgpkaa", sum := "06db25b2f938ab8ea25cf8dc623d709ae8fba6eeed3e3d7601b33182b642d5a7", func := "panes/paneskeep.Whole", spec := "whole", inPlace := ["slices.overlaps[panes/scene.key]"], unfollowed := true, recurses := true, plainKeys := false, apart := false, narrowed := true }
def WholeUptoSaid : Prop := wholeUptoRow.holds Try.pinned (OpenSpec.upto wholeSpec)

/-- 'paneskeep.Layers', WHERE WHAT IT READS IS OF BULK AT MOST 1048576: true; the input reads as it did. -/
def layersUptoRow : OpenClaim := { program := "ytfnockbgkcgpkaa", sum := "06db25b2f938ab8ea25cf8dc623d709ae8fba6eeed3e3d7601b33182b642d5a7", func := "panes/paneskeep.Layers", spec := "layers", inPlace := ["slices.overlaps[panes/scene.key]"], unfollowed := true, recurses := true, plainKeys := false, apart := false, narrowed := true }
def LayersUptoSaid : Prop := layersUptoRow.holds Try.pinned (OpenSpec.upto layersSpec)

/-- 'paneskeep.Apart', WHERE WHAT IT READS IS OF BULK AT MOST 1048576: true; the input reads as it did. -/
def apartUptoRow : OpenClaim := { program := "ytfnockbgkcgpkaa", sum := "06db25b2f938ab8ea25cf8dc623d709ae8fba6eeed3e3d7601b33182b642d5a7", func := "panes/paneskeep.Apart", spec := "apart", inPlace := ["slices.overlaps[panes/scene.key]"], unfollowed := true, recurses := true, plainKeys := false, apart := false, narrowed := true }
def ApartUptoSaid : Prop := apartUptoRow.holds Try.pinned (OpenSpec.upto apartSpec)

end Rows
end Go.Proofs.Ytfnockbgkcgpkaa
