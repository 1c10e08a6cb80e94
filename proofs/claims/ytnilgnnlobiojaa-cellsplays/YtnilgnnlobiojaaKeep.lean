/- What an index's methods leave alone: all blocks of cells but the index's own and rows of IDs. -/
import Derived.Test.YtnilgnnlobiojaaPlan
namespace Go.Proofs.Ytnilgnnlobiojaa
open Go.RowKit
def Kept (w w' : World) : Prop := ∀ (k : Nat) (cs : Array Value) (t : TypeId) (z : Nat × Nat), w.heap[k]? = some (Obj.cells cs t z) → t ≠ 3 → t ≠ 55 → w'.heap[k]? = w.heap[k]?
theorem Kept.refl (w : World) : Kept w w := fun _ _ _ _ _ _ _ => rfl
theorem Kept.trans {a b c : World} (h : Kept a b) (k : Kept b c) : Kept a c := fun i cs t z hi h3 h5 => by
  have h1 := h i cs t z hi h3 h5
  rw [← h1]
  exact k i cs t z (h1.trans hi) h3 h5
theorem Kept.below {w w' : World} (h : Below w.heap.size w w') : Kept w w' := fun k _ _ _ hk _ _ => h.block k (Array.getElem?_eq_some_iff.1 hk).1
theorem Kept.turnF {w w' : World} {m : Nat} {f : Cl → Option Value} (hf : FMap w m f) (ht : Turn m w w') : Kept w w' := fun k _ _ _ hk _ _ => ht.block k (by
  rintro rfl
  obtain ⟨es, ck, l, h1, _⟩ := hf
  rw [h1] at hk; cases hk)
theorem Kept.turnI {w w' : World} {m n : Nat} {f : Int → Option Value} (hf : IMap w m f n) (ht : Turn m w w') : Kept w w' := fun k _ _ _ hk _ _ => ht.block k (by
  rintro rfl
  obtain ⟨es, ck, l, _, h1, _⟩ := hf
  rw [h1] at hk; cases hk)
theorem Kept.gro {w w' : World} {base : Nat} {v v' : Value} {xs : List Int} (hv : OwnI w base v xs) (hg : Gro w v w' v') : Kept w w' := fun k cs t z hk h3 _ => hg.block k (Array.getElem?_eq_some_iff.1 hk).1 fun e => by
  obtain ⟨_, ⟨rfl, _⟩ | ⟨g, cap, cur, rfl, hg, hh, _⟩⟩ := hv
  · simp [Value.ownBlock] at e
  · simp [Value.ownBlock] at e
    subst e
    rw [hh] at hk
    cases hk
    exact h3 rfl
theorem Kept.blk {w w' : World} (h : Kept w w') {b : Nat} {l : List Value} {t : TypeId} (hb : Blk w b l t) (h3 : t ≠ 3) (h5 : t ≠ 55) : Blk w' b l t := by
  unfold Blk at hb ⊢
  rw [h b _ _ _ hb h3 h5]; exact hb
/-- The same, of rows of IDs too, as long as they aren't the index's own (fa: its rows). -/
def Kept2 (fa : Cl → Option Value) (w w' : World) : Prop := ∀ (k : Nat) (cs : Array Value) (t : TypeId) (z : Nat × Nat), w.heap[k]? = some (Obj.cells cs t z) → t ≠ 55 → (∀ c v, fa c = some v → v.ownBlock ≠ some k) → w'.heap[k]? = w.heap[k]?
theorem Kept2.trans {fa : Cl → Option Value} {a b c : World} (h : Kept2 fa a b) (k : Kept2 fa b c) : Kept2 fa a c := fun i cs t z hi h5 hn => by
  have h1 := h i cs t z hi h5 hn
  rw [← h1]
  exact k i cs t z (h1.trans hi) h5 hn
theorem Kept2.below {fa : Cl → Option Value} {w w' : World} (h : Below w.heap.size w w') : Kept2 fa w w' := fun k _ _ _ hk _ _ => h.block k (Array.getElem?_eq_some_iff.1 hk).1
theorem Kept2.turnF {fa : Cl → Option Value} {w w' : World} {m : Nat} {f : Cl → Option Value} (hf : FMap w m f) (ht : Turn m w w') : Kept2 fa w w' := fun k _ _ _ hk _ _ => ht.block k (by
  rintro rfl
  obtain ⟨es, ck, l, h1, _⟩ := hf
  rw [h1] at hk; cases hk)
theorem Kept2.turnI {fa : Cl → Option Value} {w w' : World} {m n : Nat} {f : Int → Option Value} (hf : IMap w m f n) (ht : Turn m w w') : Kept2 fa w w' := fun k _ _ _ hk _ _ => ht.block k (by
  rintro rfl
  obtain ⟨es, ck, l, _, h1, _⟩ := hf
  rw [h1] at hk; cases hk)
theorem Kept2.gro {fa : Cl → Option Value} {w w' : World} {c : Cl} {v v' : Value} (hv : fa c = some v ∨ v = .slice none 0 0) (hg : Gro w v w' v') : Kept2 fa w w' := fun k cs t z hk _ hn => hg.block k (Array.getElem?_eq_some_iff.1 hk).1 (by
  rcases hv with h | rfl
  · exact hn c v h
  · simp [Value.ownBlock])
theorem Kept2.kept {fa : Cl → Option Value} {w w' : World} (h : Kept2 fa w w') {base : Nat} (hr : ∀ c v, fa c = some v → ∃ xs, OwnI w base v xs) : Kept w w' := fun k cs t z hk h3 h5 => h k cs t z hk h5 fun c v hv e => by
  obtain ⟨xs, hv⟩ := hr c v hv
  obtain ⟨_, ⟨rfl, _⟩ | ⟨g, cap, cur, rfl, hg, hh, _⟩⟩ := hv
  · simp [Value.ownBlock] at e
  · simp [Value.ownBlock] at e
    subst e
    rw [hh] at hk
    cases hk
    exact h3 rfl
/-- The rows fb are in blocks of the rows fa, or in later ones. -/
def Own2 (w : World) (fa fb : Cl → Option Value) : Prop := ∀ c v k, fb c = some v → v.ownBlock = some k → (∃ d u, fa d = some u ∧ u.ownBlock = some k) ∨ w.heap.size ≤ k
theorem Own2.refl (w : World) (fa : Cl → Option Value) : Own2 w fa fa := fun c v _ h hk => Or.inl ⟨c, v, h, hk⟩
theorem Own2.drop (w : World) (fa : Cl → Option Value) (c : Cl) : Own2 w fa (dropF fa c) := fun d v k h hk => by
  unfold dropF at h
  by_cases hd : d = c
  · rw [if_pos hd] at h; cases h
  · rw [if_neg hd] at h; exact Or.inl ⟨d, v, h, hk⟩
theorem Own2.put {w W W' : World} {fa : Cl → Option Value} {c : Cl} {v v' : Value} (hv : fa c = some v ∨ v = .slice none 0 0) (hg : Gro W v W' v') (hs : w.heap.size ≤ W.heap.size) : Own2 w fa (putF fa c v') := fun d u k h hk => by
  unfold putF at h
  by_cases hd : d = c
  · rw [if_pos hd] at h
    cases h
    rcases hg.pl with h1 | h1
    · rw [h1] at hk
      rcases hv with h | rfl
      · exact Or.inl ⟨c, v, h, hk⟩
      · simp [Value.ownBlock] at hk
    · exact Or.inr (Nat.le_trans hs (h1 k hk))
  · rw [if_neg hd] at h; exact Or.inl ⟨d, u, h, hk⟩
theorem Own2.trans {w w1 : World} {fa fb fc : Cl → Option Value} (h : Own2 w fa fb) (k : Own2 w1 fb fc) (hs : w.heap.size ≤ w1.heap.size) : Own2 w fa fc := fun c v i hv hi => by
  rcases k c v i hv hi with ⟨d, u, h1, h2⟩ | h1
  · exact h d u i h1 h2
  · exact Or.inr (Nat.le_trans hs h1)
theorem Kept2.step {w w1 w2 : World} {fa fb : Cl → Option Value} (h : Kept2 fa w w1) (ho : Own2 w fa fb) (k : Kept2 fb w1 w2) : Kept2 fa w w2 := fun i cs t z hi h5 hn => by
  have h1 := h i cs t z hi h5 hn
  have hlt := (Array.getElem?_eq_some_iff.1 hi).1
  rw [← h1]
  refine k i cs t z (h1.trans hi) h5 fun c v hv e => ?_
  rcases ho c v i hv e with ⟨d, u, h2, h3⟩ | h2
  · exact hn d u h2 h3
  · omega
/-- An index with its rows fa. -/
def Jx (w : World) (b base : Nat) (fa : Cl → Option Value) (A : Cl → List Int) (F : Int → Option Cl) (n : Nat) : Prop :=
  ((Blk w b [.map none, .map none] 55 ∧ base ≤ b ∧ (∀ c, A c = []) ∧ (∀ i, F i = none) ∧ n = 0) ∧ fa = fun _ => none) ∨ ∃ ma mw, Im w b base ma mw fa A F n
theorem Ix.jx {w : World} {b base n : Nat} {A : Cl → List Int} {F : Int → Option Cl} (h : Ix w b base A F n) : ∃ fa, Jx w b base fa A F n := by
  rcases h with h | ⟨ma, mw, fa, h⟩
  · exact ⟨_, Or.inl ⟨h, rfl⟩⟩
  · exact ⟨fa, Or.inr ⟨ma, mw, h⟩⟩
theorem Jx.ix {w : World} {b base n : Nat} {fa : Cl → Option Value} {A : Cl → List Int} {F : Int → Option Cl} (h : Jx w b base fa A F n) : Ix w b base A F n := by
  rcases h with ⟨h, _⟩ | ⟨ma, mw, h⟩
  · exact Or.inl h
  · exact Or.inr ⟨ma, mw, fa, h⟩
theorem Jx.below {w w' : World} {b base n : Nat} {fa : Cl → Option Value} {A : Cl → List Int} {F : Int → Option Cl} (h : Jx w b base fa A F n) (hb : Below w.heap.size w w') : Jx w' b base fa A F n := by
  rcases h with ⟨h, h2⟩ | ⟨ma, mw, h⟩
  · exact Or.inl ⟨⟨h.1.below hb h.1.lt, h.2⟩, h2⟩
  · exact Or.inr ⟨ma, mw, h.below hb⟩
/-- Each row is one that the index owns. -/
theorem Jx.rows {w : World} {b base n : Nat} {fa : Cl → Option Value} {A : Cl → List Int} {F : Int → Option Cl} (h : Jx w b base fa A F n) : ∀ c v, fa c = some v → ∃ xs, OwnI w base v xs := by
  rcases h with ⟨_, rfl⟩ | ⟨ma, mw, h⟩
  · intro c v h; cases h
  · intro c v hv
    have hne : A c ≠ [] := fun e => by rw [h.off c e] at hv; cases hv
    obtain ⟨u, h1, h2⟩ := h.on c hne
    rw [hv] at h1
    cases h1
    exact ⟨_, h2⟩
end Go.Proofs.Ytnilgnnlobiojaa
