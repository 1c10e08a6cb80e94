/- Regions that draw their order and whose calls only make new memory. -/
import Derived.Test.YthinldcblbgdnaaDoorDist
namespace Go.Proofs.YthinldcblbgdnaaDoor
open Go.RowKit
/-- A world behind W: what lay there lies there still. -/
structure Nx (W : World) where
  w : World
  h : Below W.heap.size W w
theorem Nx.some (W : World) : Nonempty (Nx W) := ⟨⟨W, Below.refl _ _⟩⟩
theorem wp_region_nx {P : Program} {id : Nat} {Q : Exit → Act → World → Prop} {a : Act} {W : World} {l : List Oper} (hm : P.follows .mixedOrders = true) (hB : Region.lexB .any l.toArray = true)
    (h : wpQuiet P l.toArray (fun w' => ∃ x : Nx W, w' = x.w) (fun a' => ∀ w', (∃ x : Nx W, w' = x.w) → Q .normal a' w') l a) : (Code.region id l.toArray true).wp P Q a W :=
  wp_region_quiet (C := fun w' => ∃ x : Nx W, w' = x.w) hm hB ⟨⟨W.drewN 1, ⟨rfl, rfl, rfl, Nat.le_refl _, fun _ _ => rfl⟩⟩, rfl⟩ (by simpa using h)
theorem nx_call {P : Program} {f : FuncId} {args : Array Value} {W : World} (x : Nx W) {v : Value} (h : Calls P f args x.w fun e w' => Out x.w v e w') : Calls P f args x.w fun e w'' => e = .returned v ∧ ∃ y : Nx W, w'' = y.w :=
  h.mono fun _ w' ⟨he, hb⟩ => ⟨he, ⟨w', x.h.trans (hb.mono x.h.size)⟩, rfl⟩
end Go.Proofs.YthinldcblbgdnaaDoor
