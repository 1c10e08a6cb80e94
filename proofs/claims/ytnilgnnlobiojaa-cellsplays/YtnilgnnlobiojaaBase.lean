/- What all texts of this seat import. -/
import Derived.Test.YtnilgnnlobiojaaProg
import Derived.WalkKit
import Derived.Below
import Derived.Deep.MidRow
import Derived.Deep.WholeRow
import Derived.Deep.Draws
import Derived.RegionTactic
import Derived.BigQuiet
import Derived.Deep.QuietTactic
namespace Go.Proofs.Ytnilgnnlobiojaa
open Go.RowKit
/-- An integer as a value. -/
def I (z : Int) : Value := .int .i64 z
def I64 (z : Int) : Prop := -9223372036854775808 ≤ z ∧ z ≤ 9223372036854775807
end Go.Proofs.Ytnilgnnlobiojaa
