/-
  No cell of these rows narrows 'for every input' (looked for: loops, veiled, ifaces, maps, wideKeys, modest, calm, conditions, laid).
  DERIVED. THE GIVEN ROWS OF THIS SEAT. 5 by the template 'for every input the law returns true; each argument reads behind the call as it read before'; 0 by the template 'total and deterministic' (their statements: YtemcbonmlmobkaaTotals.lean).
  GIVEN WITH THE SEED: the statements are not yours to turn. If you find one false, say at which input.
  Laid BY PROGRAM, IN A SANDBOX (cutbox-rows.mjs): the forced cells as the released guide's own fill.sh prints them over the translation c1ef6f373d741579… (all of the seat's roots in one cut). By AI agents, Wed Nov 11 2026. No macro, syntax, notation, axiom, sorry.
-/
import Derived.Test.YtemcbonmlmobkaaChecked
import GoSem.Claim
import GoSem.ClaimJoined
import GoSem.ClaimMapViews
import Derived.JoinedTies
import Derived.KernelRfl
namespace Go.Proofs.Ytemcbonmlmobkaa
/- THE CELL 'sum', in the pinned program and in every row, IS THE sha256 OF THE DUMP (.gsa) THAT YtemcbonmlmobkaaProg.lean LOADS. Nothing in Lean hashes anything: it is a label: what it is worth is what the hold of that sum in a sandbox is worth. -/
noncomputable def Try.pinned : Pinned := { name := "ytemcbonmlmobkaa", sum := "c1ef6f373d7415799558bb7d1d84e4a213853b501b9d6b7032019e5c9e278b82", checked := Try.checked }
namespace Rows
def none {H : Type} : Left H := { results := [], args := [] }

/-- 'skirmishlaw08.PathFinds': WHATEVER THE INPUT: true; the input reads as it did. -/
def pathFindsSpec : ChangeSpec := { name := "pathFinds", fn := fun _ => fun
  | [d1, d2, d3] => { results := [.lit (.bool true)], args := [d1, d2, d3] }
  | _ => none }
def pathFindsRow : OpenClaim := { program := "ytemcbonmlmobkaa", sum := "c1ef6f373d7415799558bb7d1d84e4a213853b501b9d6b7032019e5c9e278b82", func := "skirmish/skirmishlaw08.PathFinds", spec := "pathFinds", plainKeys := false, apart := false }
def PathFindsSaid : Prop := pathFindsRow.holds Try.pinned (OpenSpec.ofChange pathFindsSpec)

/-- ITS FALSE NEIGHBOUR: 'it returns false'. Refute it at one input. -/
def pathFindsWrong : ChangeSpec := { name := "pathFinds", fn := fun _ => fun
  | [d1, d2, d3] => { results := [.lit (.bool false)], args := [d1, d2, d3] }
  | _ => none }
def PathFindsWrongFalsely : Prop := pathFindsRow.holds Try.pinned (OpenSpec.ofChange pathFindsWrong)

/-- 'skirmishlaw08.PathWalks': WHATEVER THE INPUT: true; the input reads as it did. -/
def pathWalksSpec : ChangeSpec := { name := "pathWalks", fn := fun _ => fun
  | [d1, d2, d3] => { results := [.lit (.bool true)], args := [d1, d2, d3] }
  | _ => none }
def pathWalksRow : OpenClaim := { program := "ytemcbonmlmobkaa", sum := "c1ef6f373d7415799558bb7d1d84e4a213853b501b9d6b7032019e5c9e278b82", func := "skirmish/skirmishlaw08.PathWalks", spec := "pathWalks", plainKeys := false, apart := false }
def PathWalksSaid : Prop := pathWalksRow.holds Try.pinned (OpenSpec.ofChange pathWalksSpec)

/-- ITS FALSE NEIGHBOUR: 'it returns false'. Refute it at one input. -/
def pathWalksWrong : ChangeSpec := { name := "pathWalks", fn := fun _ => fun
  | [d1, d2, d3] => { results := [.lit (.bool false)], args := [d1, d2, d3] }
  | _ => none }
def PathWalksWrongFalsely : Prop := pathWalksRow.holds Try.pinned (OpenSpec.ofChange pathWalksWrong)

/-- 'skirmishlaw08.PathRests': WHATEVER THE INPUT: true; the input reads as it did. -/
def pathRestsSpec : ChangeSpec := { name := "pathRests", fn := fun _ => fun
  | [d1, d2, d3] => { results := [.lit (.bool true)], args := [d1, d2, d3] }
  | _ => none }
def pathRestsRow : OpenClaim := { program := "ytemcbonmlmobkaa", sum := "c1ef6f373d7415799558bb7d1d84e4a213853b501b9d6b7032019e5c9e278b82", func := "skirmish/skirmishlaw08.PathRests", spec := "pathRests", plainKeys := false, apart := false }
def PathRestsSaid : Prop := pathRestsRow.holds Try.pinned (OpenSpec.ofChange pathRestsSpec)

/-- ITS FALSE NEIGHBOUR: 'it returns false'. Refute it at one input. -/
def pathRestsWrong : ChangeSpec := { name := "pathRests", fn := fun _ => fun
  | [d1, d2, d3] => { results := [.lit (.bool false)], args := [d1, d2, d3] }
  | _ => none }
def PathRestsWrongFalsely : Prop := pathRestsRow.holds Try.pinned (OpenSpec.ofChange pathRestsWrong)

/-- 'skirmishlaw08.PathBack': WHATEVER THE INPUT: true; the input reads as it did. -/
def pathBackSpec : ChangeSpec := { name := "pathBack", fn := fun _ => fun
  | [d1, d2, d3] => { results := [.lit (.bool true)], args := [d1, d2, d3] }
  | _ => none }
def pathBackRow : OpenClaim := { program := "ytemcbonmlmobkaa", sum := "c1ef6f373d7415799558bb7d1d84e4a213853b501b9d6b7032019e5c9e278b82", func := "skirmish/skirmishlaw08.PathBack", spec := "pathBack", plainKeys := false, apart := false }
def PathBackSaid : Prop := pathBackRow.holds Try.pinned (OpenSpec.ofChange pathBackSpec)

/-- ITS FALSE NEIGHBOUR: 'it returns false'. Refute it at one input. -/
def pathBackWrong : ChangeSpec := { name := "pathBack", fn := fun _ => fun
  | [d1, d2, d3] => { results := [.lit (.bool false)], args := [d1, d2, d3] }
  | _ => none }
def PathBackWrongFalsely : Prop := pathBackRow.holds Try.pinned (OpenSpec.ofChange pathBackWrong)

/-- 'skirmishlaw08.PathMore': WHATEVER THE INPUT: true; the input reads as it did. -/
def pathMoreSpec : ChangeSpec := { name := "pathMore", fn := fun _ => fun
  | [d1, d2, d3] => { results := [.lit (.bool true)], args := [d1, d2, d3] }
  | _ => none }
def pathMoreRow : OpenClaim := { program := "ytemcbonmlmobkaa", sum := "c1ef6f373d7415799558bb7d1d84e4a213853b501b9d6b7032019e5c9e278b82", func := "skirmish/skirmishlaw08.PathMore", spec := "pathMore", plainKeys := false, apart := false }
def PathMoreSaid : Prop := pathMoreRow.holds Try.pinned (OpenSpec.ofChange pathMoreSpec)

/-- ITS FALSE NEIGHBOUR: 'it returns false'. Refute it at one input. -/
def pathMoreWrong : ChangeSpec := { name := "pathMore", fn := fun _ => fun
  | [d1, d2, d3] => { results := [.lit (.bool false)], args := [d1, d2, d3] }
  | _ => none }
def PathMoreWrongFalsely : Prop := pathMoreRow.holds Try.pinned (OpenSpec.ofChange pathMoreWrong)

/- THE SECOND FORM. 'bulk': how many values and letters a reading holds, each counted each time it is reached (what is shared counts as often as it is met; a slice's spare places count too). A statement '..UptoSaid' is the law's where the arguments, and the package variables that the reading takes, are together of bulk at most 1048576: NARROWER than '..Said'. Prove '..Said' where nothing that the law and all that it calls make is longer than what came in: it says more and counts as full. Else prove '..UptoSaid'. A law counts once. -/
mutual
def uptoBulk {H : Type} : DataW H → Nat
  | .lit (.string bytes) => bytes.length + 1
  | .lit _ => 1
  | .nil => 1
  | .ptr d => uptoBulk d + 1
  | .slice elems spare => uptoBulkAll elems + uptoBulkAll spare + 1
  | .agg parts => uptoBulkAll parts + 1
  | .iface _ d => uptoBulk d + 1
  | .map entries => uptoBulkEntries entries + 1
  | .held _ => 1
def uptoBulkAll {H : Type} : List (DataW H) → Nat
  | [] => 0
  | d :: r => uptoBulk d + uptoBulkAll r
def uptoBulkEntries {H : Type} : List (Lit × DataW H) → Nat
  | [] => 0
  | x :: r => uptoBulkEntry x + uptoBulkEntries r
def uptoBulkEntry {H : Type} : Lit × DataW H → Nat
  | (.string bytes, d) => bytes.length + uptoBulk d + 1
  | (_, d) => uptoBulk d + 1
 end
def uptoSmall : (H : Type) → List (DataW H) → Bool := fun _ ds => decide (uptoBulkAll ds ≤ 1048576)
def OpenSpec.upto (s : _root_.Go.ChangeSpec) : _root_.Go.OpenSpec := { _root_.Go.OpenSpec.ofChange s with cond := some uptoSmall }

/-- 'skirmishlaw08.PathFinds', WHERE WHAT IT READS IS OF BULK AT MOST 1048576: true; the input reads as it did. -/
def pathFindsUptoRow : OpenClaim := { program := "ytemcbonmlmobkaa", sum := "c1ef6f373d7415799558bb7d1d84e4a213853b501b9d6b7032019e5c9e278b82", func := "skirmish/skirmishlaw08.PathFinds", spec := "pathFinds", plainKeys := false, apart := false, narrowed := true }
def PathFindsUptoSaid : Prop := pathFindsUptoRow.holds Try.pinned (OpenSpec.upto pathFindsSpec)

/-- 'skirmishlaw08.PathWalks', WHERE WHAT IT READS IS OF BULK AT MOST 1048576: true; the input reads as it did. -/
def pathWalksUptoRow : OpenClaim := { program := "ytemcbonmlmobkaa", sum := "c1ef6f373d7415799558bb7d1d84e4a213853b501b9d6b7032019e5c9e278b82", func := "skirmish/skirmishlaw08.PathWalks", spec := "pathWalks", plainKeys := false, apart := false, narrowed := true }
def PathWalksUptoSaid : Prop := pathWalksUptoRow.holds Try.pinned (OpenSpec.upto pathWalksSpec)

/-- 'skirmishlaw08.PathRests', WHERE WHAT IT READS IS OF BULK AT MOST 1048576: true; the input reads as it did. -/
def pathRestsUptoRow : OpenClaim := { program := "ytemcbonmlmobkaa", sum := "c1ef6f373d7415799558bb7d1d84e4a213853b501b9d6b7032019e5c9e278b82", func := "skirmish/skirmishlaw08.PathRests", spec := "pathRests", plainKeys := false, apart := false, narrowed := true }
def PathRestsUptoSaid : Prop := pathRestsUptoRow.holds Try.pinned (OpenSpec.upto pathRestsSpec)

/-- 'skirmishlaw08.PathBack', WHERE WHAT IT READS IS OF BULK AT MOST 1048576: true; the input reads as it did. -/
def pathBackUptoRow : OpenClaim := { program := "ytemcbonmlmobkaa", sum := "c1ef6f373d7415799558bb7d1d84e4a213853b501b9d6b7032019e5c9e278b82", func := "skirmish/skirmishlaw08.PathBack", spec := "pathBack", plainKeys := false, apart := false, narrowed := true }
def PathBackUptoSaid : Prop := pathBackUptoRow.holds Try.pinned (OpenSpec.upto pathBackSpec)

/-- 'skirmishlaw08.PathMore', WHERE WHAT IT READS IS OF BULK AT MOST 1048576: true; the input reads as it did. -/
def pathMoreUptoRow : OpenClaim := { program := "ytemcbonmlmobkaa", sum := "c1ef6f373d7415799558bb7d1d84e4a213853b501b9d6b7032019e5c9e278b82", func := "skirmish/skirmishlaw08.PathMore", spec := "pathMore", plainKeys := false, apart := false, narrowed := true }
def PathMoreUptoSaid : Prop := pathMoreUptoRow.holds Try.pinned (OpenSpec.upto pathMoreSpec)

end Rows
end Go.Proofs.Ytemcbonmlmobkaa
