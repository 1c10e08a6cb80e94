/- What every law's row of this seat shares. -/
import Derived.Test.YtlnbhgpijdjpmaaRows
import Derived.Test.YtlnbhgpijdjpmaaBase
import Derived.ProofKit
import Derived.OpenShut
namespace Go.Proofs.Ytlnbhgpijdjpmaa
open Go.ChangeShapes Go.WideShapes Go.ChangeAt Go.RowKit
theorem own : ownKnob Try.prog.godebug = none := by kernel_rfl
theorem laidOut : laidOutB Try.prog = true := by kernel_rfl
end Go.Proofs.Ytlnbhgpijdjpmaa
