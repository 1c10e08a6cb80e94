/- A region that draws its order, in which two operations come up at once: reads first, then both orders, then one order alone. -/
import Derived.Test.YtnilgnnlobiojaaPlan
namespace Go.Proofs.Ytnilgnnlobiojaa
open Go.RowKit
def forkOk (md : Region.Mode) (ops : Array Oper) (i j : Nat) (r : List (Nat × Bool)) : List Nat → Array Bool → Bool
  | [], listed => (Region.ready md ops listed == [i, j]) && (planOk md ops ((j, true) :: r) (listed.setIfInBounds i true) && planOk md ops ((i, true) :: r) (listed.setIfInBounds j true))
  | k :: r0, listed => Region.free md ops listed k && (Region.ready md ops listed).contains k && forkOk md ops i j r r0 (listed.setIfInBounds k true)
section
variable {P : Program} {ops : Array Oper} {Q : Exit → Act → World → Prop} {S : World → Prop}
def wpFork (P : Program) (ops : Array Oper) (Q : Exit → Act → World → Prop) (S : World → Prop) (i j : Nat) (r : List (Nat × Bool)) : List Nat → Act → World → Prop
  | [], a, w => wpPlan P ops Q S ((i, true) :: (j, true) :: r) a w ∧ wpPlan P ops Q S ((j, true) :: (i, true) :: r) a w
  | k :: r0, a, w => ∃ o, ops[k]? = some o ∧ (if Region.wanted o (yielded ops a.tmps) = true then ∃ v, (∀ x, S x → (execOp a.eval o).run P x = .ok (.value v) x) ∧ wpFork P ops Q S i j r r0 (a.put o.dst v) w else wpFork P ops Q S i j r r0 (a.put o.dst undef) w)
theorem anyH_of_fork {md : Region.Mode} (hsel : Region.noSelect ops = true) (hQ : ∀ (d : Option Tmp) (v : Value) c a w, Q (.panic c) (a.put d v) w → Q (.panic c) a w) (i j : Nat) (r : List (Nat × Bool)) :
    ∀ (r0 : List Nat) (listed : Array Bool) (a : Act) (w : World), forkOk md ops i j r r0 listed = true → S w → wpFork P ops Q S i j r r0 a w → wpAnyH P md ops Q S (r0.length + (r.length + 2)) listed a w
  | [], listed, a, w, hok, hS, h => by
    simp only [forkOk, Bool.and_eq_true] at hok
    obtain ⟨hr, h1, h2⟩ := hok
    obtain ⟨⟨o, ho, k1⟩, ⟨o', ho', k2⟩⟩ := h
    rw [show ([] : List Nat).length + (r.length + 2) = r.length + 1 + 1 by simp]
    refine wpAnyH_ready (rs := [i, j]) (by simpa using hr) (by simp) (AllReadyH.cons ho (fun K hK => ?_) (AllReadyH.cons ho' (fun K hK => ?_) AllReadyH.nil))
    · by_cases hw : Region.wanted o (yielded ops a.tmps) = true
      · rw [if_pos hw] at k1 ⊢
        exact Oper.wp_mono (fun a' w' ⟨hS', hp⟩ => hK.out a' w' hS' (fun _ => anyH_of_plan hsel hQ ((j, true) :: r) _ _ _ h1 hS' hp)) k1
      · rw [if_neg hw] at k1 ⊢
        exact hK.out _ _ hS (fun _ => anyH_of_plan hsel hQ ((j, true) :: r) _ _ _ h1 hS k1)
    · by_cases hw : Region.wanted o' (yielded ops a.tmps) = true
      · rw [if_pos hw] at k2 ⊢
        exact Oper.wp_mono (fun a' w' ⟨hS', hp⟩ => hK.out a' w' hS' (fun _ => anyH_of_plan hsel hQ ((i, true) :: r) _ _ _ h2 hS' hp)) k2
      · rw [if_neg hw] at k2 ⊢
        exact hK.out _ _ hS (fun _ => anyH_of_plan hsel hQ ((i, true) :: r) _ _ _ h2 hS k2)
  | k :: r0, listed, a, w, hok, hS, h => by
    simp only [forkOk, Bool.and_eq_true] at hok
    obtain ⟨o, ho, h⟩ := h
    rw [show (k :: r0).length + (r.length + 2) = (r0.length + (r.length + 2)) + 1 by simp; omega]
    by_cases hw : Region.wanted o (yielded ops a.tmps) = true
    · rw [if_pos hw] at h
      obtain ⟨v, hy, h⟩ := h
      exact wpAnyH_take ho hsel hok.1.1 hok.1.2 (hQ _ _) (Or.inl ⟨hw, hy⟩) hS (anyH_of_fork hsel hQ i j r r0 _ _ _ hok.2 hS h)
    · rw [if_neg hw] at h
      exact wpAnyH_take ho hsel hok.1.1 hok.1.2 (hQ _ _) (Or.inr ⟨by simpa using hw, rfl⟩) hS (anyH_of_fork hsel hQ i j r r0 _ _ _ hok.2 hS h)
theorem wp_region_fork {id : Nat} {a : Act} {w : World} {l : List Oper} (r0 : List Nat) (i j : Nat) (r : List (Nat × Bool)) (hm : P.follows .mixedOrders = true) (hsel : Region.noSelect l.toArray = true) (hlen : r0.length + (r.length + 2) = l.length) (hok : forkOk .any l.toArray i j r r0 (Array.replicate l.length false) = true) (hS : S w.drew)
    (h : wpFork P l.toArray (fun e a' w' => e = .normal ∧ Q .normal a' w') S i j r r0 a w.drew) : (Code.region id l.toArray true).wp P Q a w := by
  have h2 : (Code.region id l.toArray true).wp P (fun e a' w' => e = .normal ∧ Q .normal a' w') a w := by
    refine wp_region_held (S := S) hm ?_
    have := anyH_of_fork (md := .any) (Q := fun e a' w' => e = .normal ∧ Q .normal a' w') hsel (fun _ _ _ _ _ h => by cases h.1) i j r r0 (Array.replicate l.length false) a w.drew hok hS h
    rw [hlen] at this
    exact this
  refine Code.wp_mono ?_ h2
  rintro e a w ⟨rfl, h⟩
  exact h
theorem fork_take {i j : Nat} {r : List (Nat × Bool)} {k : Nat} {r0 : List Nat} {a : Act} {w : World} {o : Oper} (ho : ops[k]? = some o)
    (h : ∀ K : Act → Prop, (∀ a, wpFork P ops Q S i j r r0 a w → K a) → if Region.wanted o (yielded ops a.tmps) = true then ∃ v, (∀ x, S x → (execOp a.eval o).run P x = .ok (.value v) x) ∧ K (a.put o.dst v) else K (a.put o.dst undef)) : wpFork P ops Q S i j r (k :: r0) a w :=
  ⟨o, ho, h (fun a => wpFork P ops Q S i j r r0 a w) (fun _ h => h)⟩
theorem fork_both {i j : Nat} {r : List (Nat × Bool)} {a : Act} {w : World} (h1 : wpPlan P ops Q S ((i, true) :: (j, true) :: r) a w) (h2 : wpPlan P ops Q S ((j, true) :: (i, true) :: r) a w) : wpFork P ops Q S i j r [] a w := ⟨h1, h2⟩
end
/-- A world in which nothing below B has turned. -/
structure Nb (B : Nat) (W : World) where
  w : World
  h : Below B W w
end Go.Proofs.Ytnilgnnlobiojaa
