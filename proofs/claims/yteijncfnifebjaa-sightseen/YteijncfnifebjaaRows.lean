/-
  No cell of these rows narrows 'for every input' (looked for: loops, veiled, ifaces, maps, wideKeys, modest, calm, conditions, laid).
  DERIVED. THE GIVEN ROWS OF THIS SEAT. 5 by the template 'for every input the law returns true; each argument reads behind the call as it read before'; 0 by the template 'total and deterministic' (their statements: YteijncfnifebjaaTotals.lean).
  GIVEN WITH THE SEED: the statements are not yours to turn. If you find one false, say at which input.
  Laid BY PROGRAM, IN A SANDBOX (cutbox-rows.mjs): the forced cells as the released guide's own fill.sh prints them over the translation a0cd17f0452aaed6… (all of the seat's roots in one cut). By AI agents, Wed Nov 11 2026. No macro, syntax, notation, axiom, sorry.
-/
import Derived.Test.YteijncfnifebjaaChecked
import GoSem.Claim
import GoSem.ClaimJoined
import GoSem.ClaimMapViews
import Derived.JoinedTies
import Derived.KernelRfl
namespace Go.Proofs.Yteijncfnifebjaa
/- THE CELL 'sum', in the pinned program and in every row, IS THE sha256 OF THE DUMP (.gsa) THAT YteijncfnifebjaaProg.lean LOADS. Nothing in Lean hashes anything: it is a label: what it is worth is what the hold of that sum in a sandbox is worth. -/
noncomputable def Try.pinned : Pinned := { name := "yteijncfnifebjaa", sum := "a0cd17f0452aaed6bd89531a1e57d09e9142d3dc78f804d08309a2aeaabc91db", checked := Try.checked }
namespace Rows
def none {H : Type} : Left H := { results := [], args := [] }

/-- 'skirmishlaw10.SightViews': WHATEVER THE INPUT: true; the input reads as it did. -/
def sightViewsSpec : ChangeSpec := { name := "sightViews", fn := fun _ => fun
  | [d1, d2, d3] => { results := [.lit (.bool true)], args := [d1, d2, d3] }
  | _ => none }
def sightViewsRow : OpenClaim := { program := "yteijncfnifebjaa", sum := "a0cd17f0452aaed6bd89531a1e57d09e9142d3dc78f804d08309a2aeaabc91db", func := "skirmish/skirmishlaw10.SightViews", spec := "sightViews", recurses := true, plainKeys := false, apart := false }
def SightViewsSaid : Prop := sightViewsRow.holds Try.pinned (OpenSpec.ofChange sightViewsSpec)

/-- ITS FALSE NEIGHBOUR: 'it returns false'. Refute it at one input. -/
def sightViewsWrong : ChangeSpec := { name := "sightViews", fn := fun _ => fun
  | [d1, d2, d3] => { results := [.lit (.bool false)], args := [d1, d2, d3] }
  | _ => none }
def SightViewsWrongFalsely : Prop := sightViewsRow.holds Try.pinned (OpenSpec.ofChange sightViewsWrong)

/-- 'skirmishlaw10.SightSeen': WHATEVER THE INPUT: true; the input reads as it did. -/
def sightSeenSpec : ChangeSpec := { name := "sightSeen", fn := fun _ => fun
  | [d1, d2, d3] => { results := [.lit (.bool true)], args := [d1, d2, d3] }
  | _ => none }
def sightSeenRow : OpenClaim := { program := "yteijncfnifebjaa", sum := "a0cd17f0452aaed6bd89531a1e57d09e9142d3dc78f804d08309a2aeaabc91db", func := "skirmish/skirmishlaw10.SightSeen", spec := "sightSeen", plainKeys := false, apart := false }
def SightSeenSaid : Prop := sightSeenRow.holds Try.pinned (OpenSpec.ofChange sightSeenSpec)

/-- ITS FALSE NEIGHBOUR: 'it returns false'. Refute it at one input. -/
def sightSeenWrong : ChangeSpec := { name := "sightSeen", fn := fun _ => fun
  | [d1, d2, d3] => { results := [.lit (.bool false)], args := [d1, d2, d3] }
  | _ => none }
def SightSeenWrongFalsely : Prop := sightSeenRow.holds Try.pinned (OpenSpec.ofChange sightSeenWrong)

/-- 'skirmishlaw10.SightTogether': WHATEVER THE INPUT: true; the input reads as it did. -/
def sightTogetherSpec : ChangeSpec := { name := "sightTogether", fn := fun _ => fun
  | [d1, d2] => { results := [.lit (.bool true)], args := [d1, d2] }
  | _ => none }
def sightTogetherRow : OpenClaim := { program := "yteijncfnifebjaa", sum := "a0cd17f0452aaed6bd89531a1e57d09e9142d3dc78f804d08309a2aeaabc91db", func := "skirmish/skirmishlaw10.SightTogether", spec := "sightTogether", plainKeys := false, apart := false }
def SightTogetherSaid : Prop := sightTogetherRow.holds Try.pinned (OpenSpec.ofChange sightTogetherSpec)

/-- ITS FALSE NEIGHBOUR: 'it returns false'. Refute it at one input. -/
def sightTogetherWrong : ChangeSpec := { name := "sightTogether", fn := fun _ => fun
  | [d1, d2] => { results := [.lit (.bool false)], args := [d1, d2] }
  | _ => none }
def SightTogetherWrongFalsely : Prop := sightTogetherRow.holds Try.pinned (OpenSpec.ofChange sightTogetherWrong)

/-- 'skirmishlaw10.SightFurther': WHATEVER THE INPUT: true; the input reads as it did. -/
def sightFurtherSpec : ChangeSpec := { name := "sightFurther", fn := fun _ => fun
  | [d1, d2, d3] => { results := [.lit (.bool true)], args := [d1, d2, d3] }
  | _ => none }
def sightFurtherRow : OpenClaim := { program := "yteijncfnifebjaa", sum := "a0cd17f0452aaed6bd89531a1e57d09e9142d3dc78f804d08309a2aeaabc91db", func := "skirmish/skirmishlaw10.SightFurther", spec := "sightFurther", recurses := true, plainKeys := false, apart := false }
def SightFurtherSaid : Prop := sightFurtherRow.holds Try.pinned (OpenSpec.ofChange sightFurtherSpec)

/-- ITS FALSE NEIGHBOUR: 'it returns false'. Refute it at one input. -/
def sightFurtherWrong : ChangeSpec := { name := "sightFurther", fn := fun _ => fun
  | [d1, d2, d3] => { results := [.lit (.bool false)], args := [d1, d2, d3] }
  | _ => none }
def SightFurtherWrongFalsely : Prop := sightFurtherRow.holds Try.pinned (OpenSpec.ofChange sightFurtherWrong)

/-- 'skirmishlaw10.SightOwn': WHATEVER THE INPUT: true; the input reads as it did. -/
def sightOwnSpec : ChangeSpec := { name := "sightOwn", fn := fun _ => fun
  | [d1, d2] => { results := [.lit (.bool true)], args := [d1, d2] }
  | _ => none }
def sightOwnRow : OpenClaim := { program := "yteijncfnifebjaa", sum := "a0cd17f0452aaed6bd89531a1e57d09e9142d3dc78f804d08309a2aeaabc91db", func := "skirmish/skirmishlaw10.SightOwn", spec := "sightOwn", plainKeys := false, apart := false }
def SightOwnSaid : Prop := sightOwnRow.holds Try.pinned (OpenSpec.ofChange sightOwnSpec)

/-- ITS FALSE NEIGHBOUR: 'it returns false'. Refute it at one input. -/
def sightOwnWrong : ChangeSpec := { name := "sightOwn", fn := fun _ => fun
  | [d1, d2] => { results := [.lit (.bool false)], args := [d1, d2] }
  | _ => none }
def SightOwnWrongFalsely : Prop := sightOwnRow.holds Try.pinned (OpenSpec.ofChange sightOwnWrong)

/- THE SECOND FORM. 'bulk': how many values and letters a reading holds, each counted each time it is reached (what is shared counts as often as it is met; a slice's spare places count too). A statement '..UptoSaid' is the law's where the arguments, and the package variables that the reading takes, are together of bulk at most 1048576: NARROWER than '..Said'. Prove '..Said' where nothing that the law and all that it calls make is longer than what came in: it says more and counts as full. Else prove '..UptoSaid'. A law counts once. -/
mutual
def uptoBulk {H : Type} : DataW H → Nat
  | .lit (.string bytes) => bytes.length + 1
  | .lit _ => 1
  | .nil => 1
  | .ptr d => uptoBulk d + 1
  | .slice elems spare => uptoBulkAll elems + uptoBulkAll spare + 1
  | .agg parts => uptoBulkAll parts + 1
  | .iface _ d => uptoBulk d + 1
  | .map entries => uptoBulkEntries entries + 1
  | .held _ => 1
def uptoBulkAll {H : Type} : List (DataW H) → Nat
  | [] => 0
  | d :: r => uptoBulk d + uptoBulkAll r
def uptoBulkEntries {H : Type} : List (Lit × DataW H) → Nat
  | [] => 0
  | x :: r => uptoBulkEntry x + uptoBulkEntries r
def uptoBulkEntry {H : Type} : Lit × DataW H → Nat
  | (.string bytes, d) => bytes.length + uptoBulk d + 1
  | (_, d) => uptoBulk d + 1
 end
def uptoSmall : (H : Type) → List (DataW H) → Bool := fun _ ds => decide (uptoBulkAll ds ≤ 1048576)
def OpenSpec.upto (s : _root_.Go.ChangeSpec) : _root_.Go.OpenSpec := { _root_.Go.OpenSpec.ofChange s with cond := some uptoSmall }

/-- 'skirmishlaw10.SightViews', WHERE WHAT IT READS IS OF BULK AT MOST 1048576: true; the input reads as it did. -/
def sightViewsUptoRow : OpenClaim := { program := "yteijncfnifebjaa", sum := "a0cd17f0452aaed6bd89531a1e57d09e9142d3dc78f804d08309a2aeaabc91db", func := "skirmish/skirmishlaw10.SightViews", spec := "sightViews", recurses := true, plainKeys := false, apart := false, narrowed := true }
def SightViewsUptoSaid : Prop := sightViewsUptoRow.holds Try.pinned (OpenSpec.upto sightViewsSpec)

/-- 'skirmishlaw10.SightSeen', WHERE WHAT IT READS IS OF BULK AT MOST 1048576: true; the input reads as it did. -/
def sightSeenUptoRow : OpenClaim := { program := "yteijncfnifebjaa", sum := "a0cd17f0452aaed6bd89531a1e57d09e9142d3dc78f804d08309a2aeaabc91db", func := "skirmish/skirmishlaw10.SightSeen", spec := "sightSeen", plainKeys := false, apart := false, narrowed := true }
def SightSeenUptoSaid : Prop := sightSeenUptoRow.holds Try.pinned (OpenSpec.upto sightSeenSpec)

/-- 'skirmishlaw10.SightTogether', WHERE WHAT IT READS IS OF BULK AT MOST 1048576: true; the input reads as it did. -/
def sightTogetherUptoRow : OpenClaim := { program := "yteijncfnifebjaa", sum := "a0cd17f0452aaed6bd89531a1e57d09e9142d3dc78f804d08309a2aeaabc91db", func := "skirmish/skirmishlaw10.SightTogether", spec := "sightTogether", plainKeys := false, apart := false, narrowed := true }
def SightTogetherUptoSaid : Prop := sightTogetherUptoRow.holds Try.pinned (OpenSpec.upto sightTogetherSpec)

/-- 'skirmishlaw10.SightFurther', WHERE WHAT IT READS IS OF BULK AT MOST 1048576: true; the input reads as it did. -/
def sightFurtherUptoRow : OpenClaim := { program := "yteijncfnifebjaa", sum := "a0cd17f0452aaed6bd89531a1e57d09e9142d3dc78f804d08309a2aeaabc91db", func := "skirmish/skirmishlaw10.SightFurther", spec := "sightFurther", recurses := true, plainKeys := false, apart := false, narrowed := true }
def SightFurtherUptoSaid : Prop := sightFurtherUptoRow.holds Try.pinned (OpenSpec.upto sightFurtherSpec)

/-- 'skirmishlaw10.SightOwn', WHERE WHAT IT READS IS OF BULK AT MOST 1048576: true; the input reads as it did. -/
def sightOwnUptoRow : OpenClaim := { program := "yteijncfnifebjaa", sum := "a0cd17f0452aaed6bd89531a1e57d09e9142d3dc78f804d08309a2aeaabc91db", func := "skirmish/skirmishlaw10.SightOwn", spec := "sightOwn", plainKeys := false, apart := false, narrowed := true }
def SightOwnUptoSaid : Prop := sightOwnUptoRow.holds Try.pinned (OpenSpec.upto sightOwnSpec)

end Rows
end Go.Proofs.Yteijncfnifebjaa
