/- What an index's methods leave alone: all blocks of cells but the index's own and rows of IDs. -/
import Derived.Test.YtnilgnnlobiojaaPlan
namespace Go.Proofs.Ytnilgnnlobiojaa
open Go.RowKit
def Kept (w w' : World) : Prop := ∀ (k : Nat) (cs : Array Value) (t : TypeId) (z : Nat × Nat), w.heap[k]? = some (Obj.cells cs t z) → t ≠ 3 → t ≠ 55 → w'.heap[k]? = w.heap[k]?
theorem Kept.refl (w : World) : Kept w w := fun _ _ _ _ _ _ _ => rfl
theorem Kept.trans {a b c : World} (h : Kept a b) (k : Kept b c) : Kept a c := fun i cs t z hi h3 h5 => by
  have h1 := h i cs t z hi h3 h5
  rw [← h1]
  exact k i cs t z (h1.trans hi) h3 h5
theorem Kept.below {w w' : World} (h : Below w.heap.size w w') : Kept w w' := fun k _ _ _ hk _ _ => h.block k (Array.getElem?_eq_some_iff.1 hk).1
theorem Kept.turnF {w w' : World} {m : Nat} {f : Cl → Option Value} (hf : FMap w m f) (ht : Turn m w w') : Kept w w' := fun k _ _ _ hk _ _ => ht.block k (by
  rintro rfl
  obtain ⟨es, ck, l, h1, _⟩ := hf
  rw [h1] at hk; cases hk)
theorem Kept.turnI {w w' : World} {m n : Nat} {f : Int → Option Value} (hf : IMap w m f n) (ht : Turn m w w') : Kept w w' := fun k _ _ _ hk _ _ => ht.block k (by
  rintro rfl
  obtain ⟨es, ck, l, _, h1, _⟩ := hf
  rw [h1] at hk; cases hk)
theorem Kept.gro {w w' : World} {base : Nat} {v v' : Value} {xs : List Int} (hv : OwnI w base v xs) (hg : Gro w v w' v') : Kept w w' := fun k cs t z hk h3 _ => hg.block k (Array.getElem?_eq_some_iff.1 hk).1 fun e => by
  obtain ⟨_, ⟨rfl, _⟩ | ⟨g, cap, cur, rfl, hg, hh, _⟩⟩ := hv
  · simp [Value.ownBlock] at e
  · simp [Value.ownBlock] at e
    subst e
    rw [hh] at hk
    cases hk
    exact h3 rfl
theorem Kept.blk {w w' : World} (h : Kept w w') {b : Nat} {l : List Value} {t : TypeId} (hb : Blk w b l t) (h3 : t ≠ 3) (h5 : t ≠ 55) : Blk w' b l t := by
  unfold Blk at hb ⊢
  rw [h b _ _ _ hb h3 h5]; exact hb
end Go.Proofs.Ytnilgnnlobiojaa
