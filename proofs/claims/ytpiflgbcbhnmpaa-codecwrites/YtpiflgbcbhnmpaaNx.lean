/- Worlds behind a world. -/
import Derived.Test.YtpiflgbcbhnmpaaRsl
namespace Go.Proofs.Ytpiflgbcbhnmpaa
open Go.RowKit
/-- A world behind W: what lay there lies there still. -/
structure Nx (W : World) where
  w : World
  h : Below W.heap.size W w
theorem Nx.some (W : World) : Nonempty (Nx W) := ⟨⟨W, Below.refl _ _⟩⟩
end Go.Proofs.Ytpiflgbcbhnmpaa
