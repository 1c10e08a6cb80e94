/-
  No cell of these rows narrows 'for every input' (looked for: loops, veiled, ifaces, maps, wideKeys, modest, calm, conditions, laid).
  DERIVED. THE GIVEN ROWS OF THIS SEAT. 5 by the template 'for every input the law returns true; each argument reads behind the call as it read before'; 0 by the template 'total and deterministic' (their statements: YtjkcmedmojidgaaTotals.lean).
  GIVEN WITH THE SEED: the statements are not yours to turn. If you find one false, say at which input.
  Laid BY PROGRAM, IN A SANDBOX (cutbox-rows.mjs): the forced cells as the released guide's own fill.sh prints them over the translation d3a048844ea35ca3… (all of the seat's roots in one cut). By AI agents, Wed Nov 11 2026. No macro, syntax, notation, axiom, sorry.
-/
import Derived.Test.YtjkcmedmojidgaaChecked
import GoSem.Claim
import GoSem.ClaimJoined
import GoSem.ClaimMapViews
import Derived.JoinedTies
import Derived.KernelRfl
namespace Go.Proofs.Ytjkcmedmojidgaa
/- THE CELL 'sum', in the pinned program and in every row, IS THE sha256 OF THE DUMP (.gsa) THAT YtjkcmedmojidgaaProg.lean LOADS. Nothing in Lean hashes anything: it is a label: what it is worth is what the hold of that sum in a sandbox is worth. -/
noncomputable def Try.pinned : Pinned := { name := "ytjkcmedmojidgaa", sum := "d3a048844ea35ca3e45071594674fd0ee46cac739c894a374c9c24684a2e8100", checked := Try.checked }
namespace Rows
def none {H : Type} : Left H := { results := [], args := [] }

/-- 'skirmishlaw11.EconStats': WHATEVER THE INPUT: true; the input reads as it did. -/
def econStatsSpec : ChangeSpec := { name := "econStats", fn := fun _ => fun
  | [d1, d2, d3] => { results := [.lit (.bool true)], args := [d1, d2, d3] }
  | _ => none }
def econStatsRow : OpenClaim := { program := "ytjkcmedmojidgaa", sum := "d3a048844ea35ca3e45071594674fd0ee46cac739c894a374c9c24684a2e8100", func := "skirmish/skirmishlaw11.EconStats", spec := "econStats", apart := false }
def EconStatsSaid : Prop := econStatsRow.holds Try.pinned (OpenSpec.ofChange econStatsSpec)

/-- ITS FALSE NEIGHBOUR: 'it returns false'. Refute it at one input. -/
def econStatsWrong : ChangeSpec := { name := "econStats", fn := fun _ => fun
  | [d1, d2, d3] => { results := [.lit (.bool false)], args := [d1, d2, d3] }
  | _ => none }
def EconStatsWrongFalsely : Prop := econStatsRow.holds Try.pinned (OpenSpec.ofChange econStatsWrong)

/-- 'skirmishlaw11.EconActs': WHATEVER THE INPUT: true; the input reads as it did. -/
def econActsSpec : ChangeSpec := { name := "econActs", fn := fun _ => fun
  | [d1, d2, d3] => { results := [.lit (.bool true)], args := [d1, d2, d3] }
  | _ => none }
def econActsRow : OpenClaim := { program := "ytjkcmedmojidgaa", sum := "d3a048844ea35ca3e45071594674fd0ee46cac739c894a374c9c24684a2e8100", func := "skirmish/skirmishlaw11.EconActs", spec := "econActs", apart := false }
def EconActsSaid : Prop := econActsRow.holds Try.pinned (OpenSpec.ofChange econActsSpec)

/-- ITS FALSE NEIGHBOUR: 'it returns false'. Refute it at one input. -/
def econActsWrong : ChangeSpec := { name := "econActs", fn := fun _ => fun
  | [d1, d2, d3] => { results := [.lit (.bool false)], args := [d1, d2, d3] }
  | _ => none }
def EconActsWrongFalsely : Prop := econActsRow.holds Try.pinned (OpenSpec.ofChange econActsWrong)

/-- 'skirmishlaw11.EconMakes': WHATEVER THE INPUT: true; the input reads as it did. -/
def econMakesSpec : ChangeSpec := { name := "econMakes", fn := fun _ => fun
  | [d1, d2] => { results := [.lit (.bool true)], args := [d1, d2] }
  | _ => none }
def econMakesRow : OpenClaim := { program := "ytjkcmedmojidgaa", sum := "d3a048844ea35ca3e45071594674fd0ee46cac739c894a374c9c24684a2e8100", func := "skirmish/skirmishlaw11.EconMakes", spec := "econMakes", apart := false }
def EconMakesSaid : Prop := econMakesRow.holds Try.pinned (OpenSpec.ofChange econMakesSpec)

/-- ITS FALSE NEIGHBOUR: 'it returns false'. Refute it at one input. -/
def econMakesWrong : ChangeSpec := { name := "econMakes", fn := fun _ => fun
  | [d1, d2] => { results := [.lit (.bool false)], args := [d1, d2] }
  | _ => none }
def EconMakesWrongFalsely : Prop := econMakesRow.holds Try.pinned (OpenSpec.ofChange econMakesWrong)

/-- 'skirmishlaw11.EconDigs': WHATEVER THE INPUT: true; the input reads as it did. -/
def econDigsSpec : ChangeSpec := { name := "econDigs", fn := fun _ => fun
  | [d1, d2] => { results := [.lit (.bool true)], args := [d1, d2] }
  | _ => none }
def econDigsRow : OpenClaim := { program := "ytjkcmedmojidgaa", sum := "d3a048844ea35ca3e45071594674fd0ee46cac739c894a374c9c24684a2e8100", func := "skirmish/skirmishlaw11.EconDigs", spec := "econDigs", apart := false }
def EconDigsSaid : Prop := econDigsRow.holds Try.pinned (OpenSpec.ofChange econDigsSpec)

/-- ITS FALSE NEIGHBOUR: 'it returns false'. Refute it at one input. -/
def econDigsWrong : ChangeSpec := { name := "econDigs", fn := fun _ => fun
  | [d1, d2] => { results := [.lit (.bool false)], args := [d1, d2] }
  | _ => none }
def EconDigsWrongFalsely : Prop := econDigsRow.holds Try.pinned (OpenSpec.ofChange econDigsWrong)

/-- 'skirmishlaw11.EconEarns': WHATEVER THE INPUT: true; the input reads as it did. -/
def econEarnsSpec : ChangeSpec := { name := "econEarns", fn := fun _ => fun
  | [d1, d2] => { results := [.lit (.bool true)], args := [d1, d2] }
  | _ => none }
def econEarnsRow : OpenClaim := { program := "ytjkcmedmojidgaa", sum := "d3a048844ea35ca3e45071594674fd0ee46cac739c894a374c9c24684a2e8100", func := "skirmish/skirmishlaw11.EconEarns", spec := "econEarns", apart := false }
def EconEarnsSaid : Prop := econEarnsRow.holds Try.pinned (OpenSpec.ofChange econEarnsSpec)

/-- ITS FALSE NEIGHBOUR: 'it returns false'. Refute it at one input. -/
def econEarnsWrong : ChangeSpec := { name := "econEarns", fn := fun _ => fun
  | [d1, d2] => { results := [.lit (.bool false)], args := [d1, d2] }
  | _ => none }
def EconEarnsWrongFalsely : Prop := econEarnsRow.holds Try.pinned (OpenSpec.ofChange econEarnsWrong)

/- THE SECOND FORM. 'bulk': how many values and letters a reading holds, each counted each time it is reached (what is shared counts as often as it is met; a slice's spare places count too). A statement '..UptoSaid' is the law's where the arguments, and the package variables that the reading takes, are together of bulk at most 1048576: NARROWER than '..Said'. Prove '..Said' where nothing that the law and all that it calls make is longer than what came in: it says more and counts as full. Else prove '..UptoSaid'. A law counts once. -/
mutual
def uptoBulk {H : Type} : DataW H → Nat
  | .lit (.string bytes) => bytes.length + 1
  | .lit _ => 1
  | .nil => 1
  | .ptr d => uptoBulk d + 1
  | .slice elems spare => uptoBulkAll elems + uptoBulkAll spare + 1
  | .agg parts => uptoBulkAll parts + 1
  | .iface _ d => uptoBulk d + 1
  | .map entries => uptoBulkEntries entries + 1
  | .held _ => 1
def uptoBulkAll {H : Type} : List (DataW H) → Nat
  | [] => 0
  | d :: r => uptoBulk d + uptoBulkAll r
def uptoBulkEntries {H : Type} : List (Lit × DataW H) → Nat
  | [] => 0
  | x :: r => uptoBulkEntry x + uptoBulkEntries r
def uptoBulkEntry {H : Type} : Lit × DataW H → Nat
  | (.string bytes, d) => bytes.length + uptoBulk d + 1
  | (_, d) => uptoBulk d + 1
 end
def uptoSmall : (H : Type) → List (DataW H) → Bool := fun _ ds => decide (uptoBulkAll ds ≤ 1048576)
def OpenSpec.upto (s : _root_.Go.ChangeSpec) : _root_.Go.OpenSpec := { _root_.Go.OpenSpec.ofChange s with cond := some uptoSmall }

/-- 'skirmishlaw11.EconStats', WHERE WHAT IT READS IS OF BULK AT MOST 1048576: true; the input reads as it did. -/
def econStatsUptoRow : OpenClaim := { program := "ytjkcmedmojidgaa", sum := "d3a048844ea35ca3e45071594674fd0ee46cac739c894a374c9c24684a2e8100", func := "skirmish/skirmishlaw11.EconStats", spec := "econStats", apart := false, narrowed := true }
def EconStatsUptoSaid : Prop := econStatsUptoRow.holds Try.pinned (OpenSpec.upto econStatsSpec)

/-- 'skirmishlaw11.EconActs', WHERE WHAT IT READS IS OF BULK AT MOST 1048576: true; the input reads as it did. -/
def econActsUptoRow : OpenClaim := { program := "ytjkcmedmojidgaa", sum := "d3a048844ea35ca3e45071594674fd0ee46cac739c894a374c9c24684a2e8100", func := "skirmish/skirmishlaw11.EconActs", spec := "econActs", apart := false, narrowed := true }
def EconActsUptoSaid : Prop := econActsUptoRow.holds Try.pinned (OpenSpec.upto econActsSpec)

/-- 'skirmishlaw11.EconMakes', WHERE WHAT IT READS IS OF BULK AT MOST 1048576: true; the input reads as it did. -/
def econMakesUptoRow : OpenClaim := { program := "ytjkcmedmojidgaa", sum := "d3a048844ea35ca3e45071594674fd0ee46cac739c894a374c9c24684a2e8100", func := "skirmish/skirmishlaw11.EconMakes", spec := "econMakes", apart := false, narrowed := true }
def EconMakesUptoSaid : Prop := econMakesUptoRow.holds Try.pinned (OpenSpec.upto econMakesSpec)

/-- 'skirmishlaw11.EconDigs', WHERE WHAT IT READS IS OF BULK AT MOST 1048576: true; the input reads as it did. -/
def econDigsUptoRow : OpenClaim := { program := "ytjkcmedmojidgaa", sum := "d3a048844ea35ca3e45071594674fd0ee46cac739c894a374c9c24684a2e8100", func := "skirmish/skirmishlaw11.EconDigs", spec := "econDigs", apart := false, narrowed := true }
def EconDigsUptoSaid : Prop := econDigsUptoRow.holds Try.pinned (OpenSpec.upto econDigsSpec)

/-- 'skirmishlaw11.EconEarns', WHERE WHAT IT READS IS OF BULK AT MOST 1048576: true; the input reads as it did. -/
def econEarnsUptoRow : OpenClaim := { program := "ytjkcmedmojidgaa", sum := "d3a048844ea35ca3e45071594674fd0ee46cac739c894a374c9c24684a2e8100", func := "skirmish/skirmishlaw11.EconEarns", spec := "econEarns", apart := false, narrowed := true }
def EconEarnsUptoSaid : Prop := econEarnsUptoRow.holds Try.pinned (OpenSpec.upto econEarnsSpec)

end Rows
end Go.Proofs.Ytjkcmedmojidgaa
