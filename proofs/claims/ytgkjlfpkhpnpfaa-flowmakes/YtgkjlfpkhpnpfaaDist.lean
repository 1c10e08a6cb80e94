/- Distances. -/
import Derived.Test.YtgkjlfpkhpnpfaaAsks
namespace Go.Proofs.Ytgkjlfpkhpnpfaa
open Go.RowKit
/-- Two cells were laid into blocks of their own, and lie there as long as nothing that lay there is written. -/
theorem two_boxes (w : World) (a b c d : Int) (W : World) (B : Nat) (hW : W = (w.alloc (.cells #[Value.int .i64 a, .int .i64 b] 37)).alloc (.cells #[Value.int .i64 c, .int .i64 d] 37)) (hB : B = w.heap.size) :
    (∀ w', Below W.heap.size W w' → w'.cell? ⟨B, 0, none⟩ = some (.int .i64 a) ∧ w'.cell? ⟨B, 1, none⟩ = some (.int .i64 b) ∧ w'.cell? ⟨B + 1, 0, none⟩ = some (.int .i64 c) ∧ w'.cell? ⟨B + 1, 1, none⟩ = some (.int .i64 d)) ∧ (∀ w', Below W.heap.size W w' → Below w.heap.size w w') := by
  have hsz : W.heap.size = B + 2 := by rw [hW, hB]; simp
  have hbe : Below w.heap.size w W := by rw [hW]; exact ((Below.refl _ _).alloc (Nat.le_refl _) _).alloc (by simp) _
  have b1 : Blk W B [Value.int .i64 a, .int .i64 b] 37 := by rw [hW, hB]; exact (Blk.new _ _ _).alloc _
  have b2 : Blk W (B + 1) [Value.int .i64 c, .int .i64 d] 37 := by rw [hW]; exact Blk.new' _ _ _ _ (by simp [hB])
  refine ⟨fun w' h => ?_, fun w' h => hbe.trans (h.mono (by omega))⟩
  have c1 := b1.below h (by omega)
  have c2 := b2.below h (by omega)
  exact ⟨c1.cell 0, c1.cell 1, c2.cell 0, c2.cell 1⟩
def dist (ax ay bx by_ : Int) : Int := if meas ax ay && meas bx by_ then apt ax bx + apt ay by_ else 1000000
end Go.Proofs.Ytgkjlfpkhpnpfaa
