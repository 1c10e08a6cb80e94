/- An index: its two maps, and the rows of IDs in one of them. -/
import Derived.Test.YtnilgnnlobiojaaImap
import Derived.Test.YtnilgnnlobiojaaLib
import Derived.Deep.RegionWith
import Derived.Deep.DeepCutAuto
import Derived.StillTailTactics
namespace Go.Proofs.Ytnilgnnlobiojaa
open Go.RowKit
abbrev Cl := Int × Int
def cellV (c : Cl) : Value := C c.1 c.2
/-- An index with two maps: who is at each cell (A), where each ID is (F), how many IDs (n); its blocks are base or later. -/
structure Im (w : World) (b base ma mw : Nat) (fa : Cl → Option Value) (A : Cl → List Int) (F : Int → Option Cl) (n : Nat) : Prop where
  blk : Blk w b [.map (some ma), .map (some mw)] 55
  fm : FMap w ma fa
  im : IMap w mw (fun i => (F i).map cellV) n
  hb : base ≤ b ∧ base ≤ ma ∧ base ≤ mw
  ne : ma ≠ mw
  off : ∀ c, A c = [] → fa c = none
  on : ∀ c, A c ≠ [] → ∃ v, fa c = some v ∧ OwnI w base v (A c)
  apart : ∀ c d v u k, fa c = some v → fa d = some u → v.ownBlock = some k → u.ownBlock = some k → c = d
/-- An index, with maps or without. -/
def Ix (w : World) (b base : Nat) (A : Cl → List Int) (F : Int → Option Cl) (n : Nat) : Prop :=
  (Blk w b [.map none, .map none] 55 ∧ base ≤ b ∧ (∀ c, A c = []) ∧ (∀ i, F i = none) ∧ n = 0) ∨ ∃ ma mw fa, Im w b base ma mw fa A F n
theorem Im.keep {w w' : World} {b base ma mw n : Nat} {fa : Cl → Option Value} {A : Cl → List Int} {F : Int → Option Cl} (h : Im w b base ma mw fa A F n) (hk : ∀ k, base ≤ k → k < w.heap.size → w'.heap[k]? = w.heap[k]?) : Im w' b base ma mw fa A F n := by
  refine ⟨?_, h.fm.keep (hk ma h.hb.2.1 h.fm.lt), h.im.keep (hk mw h.hb.2.2 h.im.lt), h.hb, h.ne, h.off, fun c hc => ?_, h.apart⟩
  · have := h.blk.lt
    have hb := h.blk
    unfold Blk at hb ⊢
    rw [hk b h.hb.1 this]; exact hb
  · obtain ⟨v, h1, h2⟩ := h.on c hc
    exact ⟨v, h1, h2.stay fun k hk2 => hk k (h2.block k hk2).1 (h2.block k hk2).2⟩
theorem Ix.keep {w w' : World} {b base n : Nat} {A : Cl → List Int} {F : Int → Option Cl} (h : Ix w b base A F n) (hk : ∀ k, base ≤ k → k < w.heap.size → w'.heap[k]? = w.heap[k]?) : Ix w' b base A F n := by
  rcases h with ⟨h1, h2⟩ | ⟨ma, mw, fa, h⟩
  · left
    refine ⟨?_, h2⟩
    have := h1.lt
    unfold Blk at h1 ⊢
    rw [hk b h2.1 this]; exact h1
  · exact Or.inr ⟨ma, mw, fa, h.keep hk⟩
theorem Ix.below {w w' : World} {b base n : Nat} {A : Cl → List Int} {F : Int → Option Cl} (h : Ix w b base A F n) (hb : Below w.heap.size w w') : Ix w' b base A F n := h.keep fun k _ hk => hb.block k hk
theorem Im.below {w w' : World} {b base ma mw n : Nat} {fa : Cl → Option Value} {A : Cl → List Int} {F : Int → Option Cl} (h : Im w b base ma mw fa A F n) (hb : Below w.heap.size w w') : Im w' b base ma mw fa A F n := h.keep fun k _ hk => hb.block k hk
theorem Ix.lt {w : World} {b base n : Nat} {A : Cl → List Int} {F : Int → Option Cl} (h : Ix w b base A F n) : b < w.heap.size ∧ base ≤ b := by
  rcases h with ⟨h1, h2, _⟩ | ⟨ma, mw, fa, h⟩
  · exact ⟨h1.lt, h2⟩
  · exact ⟨h.blk.lt, h.hb.1⟩
/-- A row's block is neither the index's own nor a map's. -/
theorem own_map {w : World} {base k m : Nat} {v : Value} {xs : List Int} (h : OwnI w base v xs) (hk : v.ownBlock = some k) {es : Array MapEntry} {ck : Nat} (hm : w.heap[m]? = some (.map es ck)) : k ≠ m := by
  rintro rfl
  obtain ⟨_, ⟨rfl, _⟩ | ⟨g, cap, cur, rfl, hg, hh, _⟩⟩ := h
  · simp [Value.ownBlock] at hk
  · simp [Value.ownBlock] at hk
    subst hk
    rw [hm] at hh; cases hh
theorem own_blk {w : World} {base k b : Nat} {v : Value} {xs : List Int} {l : List Value} {t : TypeId} (h : OwnI w base v xs) (hk : v.ownBlock = some k) (hm : Blk w b l t) (ht : t ≠ 3) : k ≠ b := by
  rintro rfl
  obtain ⟨_, ⟨rfl, _⟩ | ⟨g, cap, cur, rfl, hg, hh, _⟩⟩ := h
  · simp [Value.ownBlock] at hk
  · simp [Value.ownBlock] at hk
    subst hk
    unfold Blk at hm
    rw [hm] at hh
    cases hh
    exact ht rfl
theorem FMap.ne {w : World} {m b : Nat} {f : Cl → Option Value} {l : List Value} {t : TypeId} (h : FMap w m f) (hb : Blk w b l t) : m ≠ b := by
  rintro rfl
  obtain ⟨es, ck, l', h1, _⟩ := h
  unfold Blk at hb
  rw [h1] at hb; cases hb
theorem IMap.ne {w : World} {m b n : Nat} {f : Int → Option Value} {l : List Value} {t : TypeId} (h : IMap w m f n) (hb : Blk w b l t) : m ≠ b := by
  rintro rfl
  obtain ⟨es, ck, l', _, h1, _⟩ := h
  unfold Blk at hb
  rw [h1] at hb; cases hb
/-- Other IDs at one cell. -/
def setA (A : Cl → List Int) (c : Cl) (ys : List Int) : Cl → List Int := fun d => if d = c then ys else A d
/-- The map of IDs has turned. -/
theorem Im.turnW {w w' : World} {b base ma mw n n' : Nat} {fa : Cl → Option Value} {A : Cl → List Int} {F F' : Int → Option Cl} (h : Im w b base ma mw fa A F n) (hi : IMap w' mw (fun i => (F' i).map cellV) n') (ht : Turn mw w w') : Im w' b base ma mw fa A F' n' := by
  refine ⟨?_, h.fm.keep (ht.block ma h.ne), hi, h.hb, h.ne, h.off, fun c hc => ?_, h.apart⟩
  · have hb := h.blk
    have := h.im.ne hb
    unfold Blk at hb ⊢
    rw [ht.block b (Ne.symm this)]; exact hb
  · obtain ⟨v, h1, h2⟩ := h.on c hc
    obtain ⟨es, ck, l', _, hm, _⟩ := h.im
    exact ⟨v, h1, h2.stay fun k hk => ht.block k (own_map h2 hk hm)⟩
/-- The row at a cell has turned, and it is laid anew. -/
theorem Im.put {w w1 w2 : World} {b base ma mw n : Nat} {fa : Cl → Option Value} {A : Cl → List Int} {F : Int → Option Cl} {c : Cl} {v v' : Value} {ys : List Int} (h : Im w b base ma mw fa A F n) (hv : OwnI w base v (A c)) (hc : fa c = some v ∨ v = .slice none 0 0) (hg : Gro w v w1 v') (ho : OwnI w1 base v' ys) (hy : ys ≠ []) (hf : FMap w2 ma (putF fa c v')) (ht : Turn ma w1 w2) : Im w2 b base ma mw (putF fa c v') (setA A c ys) F n := by
  have hvb : ∀ k, v.ownBlock = some k → k ≠ b ∧ k ≠ ma ∧ k ≠ mw := fun k hk => by
    obtain ⟨es, ck, l', hm, _⟩ := h.fm
    obtain ⟨es2, ck2, l2, _, hm2, _⟩ := h.im
    exact ⟨own_blk hv hk h.blk (by decide), own_map hv hk hm, own_map hv hk hm2⟩
  have hmb := h.fm.ne h.blk
  have hkeep : ∀ k, k < w.heap.size → v.ownBlock ≠ some k → k ≠ ma → w2.heap[k]? = w.heap[k]? := fun k h1 h2 h3 => (ht.block k h3).trans (hg.block k h1 h2)
  refine ⟨?_, hf, ?_, h.hb, h.ne, fun d hd => ?_, fun d hd => ?_, fun d e u u' k hd he hk hk' => ?_⟩
  · have hb := h.blk
    have hlt := hb.lt
    unfold Blk at hb ⊢
    rw [hkeep b hlt (fun e => (hvb b e).1 rfl) (Ne.symm hmb)]; exact hb
  · exact h.im.keep (hkeep mw h.im.lt (fun e => (hvb mw e).2.2 rfl) (Ne.symm h.ne))
  · unfold setA at hd
    unfold putF
    by_cases hdc : d = c
    · rw [if_pos hdc] at hd; exact absurd hd hy
    · rw [if_neg hdc] at hd ⊢
      exact h.off d hd
  · unfold setA at hd ⊢
    unfold putF
    by_cases hdc : d = c
    · rw [if_pos hdc, if_pos hdc]
      refine ⟨v', rfl, ho.stay fun k hk => ht.block k fun e => ?_⟩
      subst e
      rcases hg.pl with h1 | h1
      · exact (hvb k (by rw [← h1]; exact hk)).2.1 rfl
      · have := h1 k hk
        have := h.fm.lt
        omega
    · rw [if_neg hdc] at hd
      rw [if_neg hdc, if_neg hdc]
      obtain ⟨u, h1, h2⟩ := h.on d hd
      refine ⟨u, h1, h2.stay fun k hk => hkeep k (h2.block k hk).2 (fun e => ?_) (fun e => ?_)⟩
      · rcases hc with hc | hc
        · exact hdc (h.apart d c u v k h1 hc hk e)
        · rw [hc] at e; cases e
      · obtain ⟨es, ck, l', hm, _⟩ := h.fm
        exact own_map h2 hk hm e
  · unfold putF at hd he
    have hnew : ∀ (z : Cl) (t : Value), fa z = some t → t.ownBlock = some k → v'.ownBlock = some k → z = c := fun z t hz htk hvk => by
      rcases hg.pl with h1 | h1
      · rw [h1] at hvk
        rcases hc with hc | hc
        · exact h.apart z c t v k hz hc htk hvk
        · rw [hc] at hvk; cases hvk
      · have := h1 k hvk
        by_cases hz0 : A z = []
        · rw [h.off z hz0] at hz; cases hz
        · obtain ⟨t', e1, e2⟩ := h.on z hz0
          rw [hz] at e1
          cases e1
          have := (e2.block k htk).2
          omega
    by_cases h1 : d = c <;> by_cases h2 : e = c
    · rw [h1, h2]
    · rw [if_pos h1] at hd
      rw [if_neg h2] at he
      cases hd
      rw [h1, hnew e u' he hk' hk]
    · rw [if_neg h1] at hd
      rw [if_pos h2] at he
      cases he
      rw [h2, hnew d u hd hk hk']
    · rw [if_neg h1] at hd
      rw [if_neg h2] at he
      exact h.apart d e u u' k hd he hk hk'
/-- A cell is taken out. -/
theorem Im.drop {w w2 : World} {b base ma mw n : Nat} {fa : Cl → Option Value} {A : Cl → List Int} {F : Int → Option Cl} (c : Cl) (h : Im w b base ma mw fa A F n) (hf : FMap w2 ma (dropF fa c)) (ht : Turn ma w w2) : Im w2 b base ma mw (dropF fa c) (setA A c []) F n := by
  have hmb := h.fm.ne h.blk
  refine ⟨?_, hf, h.im.keep (ht.block mw (Ne.symm h.ne)), h.hb, h.ne, fun d hd => ?_, fun d hd => ?_, fun d e u u' k hd he hk hk' => ?_⟩
  · have hb := h.blk
    unfold Blk at hb ⊢
    rw [ht.block b (Ne.symm hmb)]; exact hb
  · unfold setA at hd
    unfold dropF
    by_cases hdc : d = c
    · rw [if_pos hdc]
    · rw [if_neg hdc] at hd ⊢
      exact h.off d hd
  · unfold setA at hd ⊢
    unfold dropF
    by_cases hdc : d = c
    · rw [if_pos hdc] at hd; exact absurd rfl hd
    · rw [if_neg hdc] at hd
      rw [if_neg hdc, if_neg hdc]
      obtain ⟨u, h1, h2⟩ := h.on d hd
      obtain ⟨es, ck, l', hm, _⟩ := h.fm
      exact ⟨u, h1, h2.stay fun k hk => ht.block k (own_map h2 hk hm)⟩
  · unfold dropF at hd he
    by_cases h1 : d = c
    · rw [if_pos h1] at hd; cases hd
    · by_cases h2 : e = c
      · rw [if_pos h2] at he; cases he
      · rw [if_neg h1] at hd
        rw [if_neg h2] at he
        exact h.apart d e u u' k hd he hk hk'
/-- What is at the cells when an ID is taken from one of them. -/
def remA (A : Cl → List Int) (i : Int) (c : Cl) : Cl → List Int := setA A c ((A c).filter (· != i))
def remF (F : Int → Option Cl) (i : Int) : Int → Option Cl := fun j => if j = i then none else F j
/-- The place of an ID in a rising list. -/
def plc (xs : List Int) (i : Int) : Nat := xs.countP (· < i)
theorem plc_le (xs : List Int) (i : Int) : plc xs i ≤ xs.length := List.countP_le_length
theorem rem_take : ∀ (xs : List Int) (i : Int), xs.Pairwise (· < ·) → i ∈ xs → plc xs i < xs.length ∧ xs.take (plc xs i) ++ xs.drop (plc xs i + 1) = xs.filter (· != i)
  | [], _, _, h => by cases h
  | x :: xs, i, hs, h => by
    rw [List.pairwise_cons] at hs
    by_cases hx : x = i
    · subst hx
      have h0 : plc (x :: xs) x = 0 := by
        unfold plc
        rw [List.countP_eq_zero]
        intro y hy
        rcases List.mem_cons.1 hy with rfl | hy
        · simp
        · have := hs.1 y hy; simp; omega
      rw [h0]
      refine ⟨by simp, ?_⟩
      have : xs.filter (· != x) = xs := by
        rw [List.filter_eq_self]
        intro y hy
        have := hs.1 y hy
        simp; omega
      simp [this]
    · have hm : i ∈ xs := by
        rcases List.mem_cons.1 h with e | h
        · exact absurd e.symm hx
        · exact h
      have hlt : x < i := hs.1 i hm
      obtain ⟨h1, h2⟩ := rem_take xs i hs.2 hm
      have h0 : plc (x :: xs) i = plc xs i + 1 := by
        unfold plc
        rw [List.countP_cons_of_pos (by simpa using hlt)]
      rw [h0]
      refine ⟨by simpa using h1, ?_⟩
      rw [List.filter_cons_of_pos (by simpa using hx), List.take_succ_cons, List.drop_succ_cons, List.cons_append, h2]
end Go.Proofs.Ytnilgnnlobiojaa
