/- Regions that draw their order, walked in an order of one's own: what only reads is taken as soon as it may come up, and where a call comes up nothing else may. -/
import Derived.Test.YtnilgnnlobiojaaIx
import Derived.Deep.RegionHeld
namespace Go.Proofs.Ytnilgnnlobiojaa
open Go.RowKit
/-- The order fits: each operation that is taken first (false) may come up, and all that have not come up wait for it or are apart from it; where one is carried out in its turn (true) no other may come up. -/
def planOk (md : Region.Mode) (ops : Array Oper) : List (Nat × Bool) → Array Bool → Bool
  | [], listed => (Region.ready md ops listed).isEmpty
  | (i, true) :: r, listed => (Region.ready md ops listed == [i]) && planOk md ops r (listed.setIfInBounds i true)
  | (i, false) :: r, listed => Region.free md ops listed i && (Region.ready md ops listed).contains i && planOk md ops r (listed.setIfInBounds i true)
section
variable {P : Program} {ops : Array Oper} {Q : Exit → Act → World → Prop} {S : World → Prop}
/-- The walk in that order. -/
def wpPlan (P : Program) (ops : Array Oper) (Q : Exit → Act → World → Prop) (S : World → Prop) : List (Nat × Bool) → Act → World → Prop
  | [], a, w => Q .normal a w
  | (i, false) :: r, a, w => ∃ o, ops[i]? = some o ∧ (if Region.wanted o (yielded ops a.tmps) = true then ∃ v, (∀ x, S x → (execOp a.eval o).run P x = .ok (.value v) x) ∧ wpPlan P ops Q S r (a.put o.dst v) w else wpPlan P ops Q S r (a.put o.dst undef) w)
  | (i, true) :: r, a, w => ∃ o, ops[i]? = some o ∧ (if Region.wanted o (yielded ops a.tmps) = true then Oper.wp P o a w (fun a' w' => S w' ∧ wpPlan P ops Q S r a' w') Q else wpPlan P ops Q S r (a.put o.dst undef) w)
theorem anyH_of_plan {md : Region.Mode} (hsel : Region.noSelect ops = true) (hQ : ∀ (d : Option Tmp) (v : Value) c a w, Q (.panic c) (a.put d v) w → Q (.panic c) a w) :
    ∀ (r : List (Nat × Bool)) (listed : Array Bool) (a : Act) (w : World), planOk md ops r listed = true → S w → wpPlan P ops Q S r a w → wpAnyH P md ops Q S r.length listed a w
  | [], listed, a, w, hok, _, h => wpAnyH_done (by simpa [planOk] using hok) h 0
  | (i, false) :: r, listed, a, w, hok, hS, h => by
    simp only [planOk, Bool.and_eq_true] at hok
    obtain ⟨o, ho, h⟩ := h
    by_cases hw : Region.wanted o (yielded ops a.tmps) = true
    · rw [if_pos hw] at h
      obtain ⟨v, hy, h⟩ := h
      exact wpAnyH_take ho hsel hok.1.1 hok.1.2 (hQ _ _) (Or.inl ⟨hw, hy⟩) hS (anyH_of_plan hsel hQ r _ _ _ hok.2 hS h)
    · rw [if_neg hw] at h
      exact wpAnyH_take ho hsel hok.1.1 hok.1.2 (hQ _ _) (Or.inr ⟨by simpa using hw, rfl⟩) hS (anyH_of_plan hsel hQ r _ _ _ hok.2 hS h)
  | (i, true) :: r, listed, a, w, hok, hS, h => by
    simp only [planOk, Bool.and_eq_true] at hok
    obtain ⟨o, ho, h⟩ := h
    refine wpAnyH_ready (rs := [i]) (by simpa using hok.1) (by simp) (AllReadyH.cons ho (fun K hK => ?_) AllReadyH.nil)
    by_cases hw : Region.wanted o (yielded ops a.tmps) = true
    · rw [if_pos hw] at h ⊢
      exact Oper.wp_mono (fun a' w' ⟨hS', hp⟩ => hK.out a' w' hS' (fun _ => anyH_of_plan hsel hQ r _ _ _ hok.2 hS' hp)) h
    · rw [if_neg hw] at h ⊢
      exact hK.out _ _ hS (fun _ => anyH_of_plan hsel hQ r _ _ _ hok.2 hS h)
theorem wp_region_plan {id : Nat} {a : Act} {w : World} {l : List Oper} (r : List (Nat × Bool)) (hm : P.follows .mixedOrders = true) (hsel : Region.noSelect l.toArray = true) (hlen : r.length = l.length) (hok : planOk .any l.toArray r (Array.replicate l.length false) = true)
    (hQ : ∀ (d : Option Tmp) (v : Value) c a w, Q (.panic c) (a.put d v) w → Q (.panic c) a w) (hS : S w.drew)
    (h : wpPlan P l.toArray Q S r a w.drew) : (Code.region id l.toArray true).wp P Q a w := by
  refine wp_region_held (S := S) hm ?_
  have := anyH_of_plan (md := .any) hsel hQ r (Array.replicate l.length false) a w.drew hok hS h
  rw [hlen] at this
  exact this
/-- One step that is taken first. -/
theorem plan_take {i : Nat} {r : List (Nat × Bool)} {a : Act} {w : World} {o : Oper} (ho : ops[i]? = some o)
    (h : ∀ K : Act → Prop, (∀ a, wpPlan P ops Q S r a w → K a) → if Region.wanted o (yielded ops a.tmps) = true then ∃ v, (∀ x, S x → (execOp a.eval o).run P x = .ok (.value v) x) ∧ K (a.put o.dst v) else K (a.put o.dst undef)) : wpPlan P ops Q S ((i, false) :: r) a w :=
  ⟨o, ho, h (fun a => wpPlan P ops Q S r a w) (fun _ h => h)⟩
/-- One step in its turn. -/
theorem plan_turn {i : Nat} {r : List (Nat × Bool)} {a : Act} {w : World} {o : Oper} (ho : ops[i]? = some o)
    (h : ∀ K : Act → World → Prop, (∀ a w', S w' → wpPlan P ops Q S r a w' → K a w') → if Region.wanted o (yielded ops a.tmps) = true then Oper.wp P o a w K Q else K (a.put o.dst undef) w) : wpPlan P ops Q S ((i, true) :: r) a w := by
  refine ⟨o, ho, ?_⟩
  have h1 := h (fun a' w' => S w' ∧ wpPlan P ops Q S r a' w') (fun _ _ h1 h2 => ⟨h1, h2⟩)
  by_cases hw : Region.wanted o (yielded ops a.tmps) = true
  · rw [if_pos hw] at h1 ⊢; exact h1
  · rw [if_neg hw] at h1 ⊢; exact h1.2
/-- What a walk in the text's order says of one operation. -/
theorem turn_of_list {o : Oper} {a : Act} {w : World} {K : Act → World → Prop} (hg : o.guard = none) (h : wpList P ops (fun e a' w' => e = .normal ∧ K a' w') [o] a w) : Oper.wp P o a w K Q := by
  have hw : Region.wanted o (yielded ops a.tmps) = true := by simp [Region.wanted, hg]
  unfold wpList at h
  rw [if_pos hw] at h
  rcases h with h | ⟨_, hl⟩
  · unfold Oper.wp at *
    generalize (execOp a.eval o).run P w = r at *
    cases r with
    | ok n w' =>
      cases n <;> simp only [Oper.upon] at h ⊢ <;>
        first
          | exact h.2
          | exact Calls.mono h (fun e w'' he => by cases e <;> first | exact he.2 | (simp [LetsOut] at he))
          | exact Rows.mono h (fun _ _ he => he.2)
          | simp at h
    | halt x w' => cases x <;> simp only [Oper.upon] at h ⊢ <;> first | exact absurd h.1 (by simp) | simp [LetsOut] at h
  · simp [LetsOut] at hl
/-- The walk of a region that never panics. -/
theorem wp_region_calm {id : Nat} {a : Act} {w : World} {l : List Oper} (r : List (Nat × Bool)) (hm : P.follows .mixedOrders = true) (hsel : Region.noSelect l.toArray = true) (hlen : r.length = l.length) (hok : planOk .any l.toArray r (Array.replicate l.length false) = true) (hS : S w.drew)
    (h : wpPlan P l.toArray (fun e a' w' => e = .normal ∧ Q .normal a' w') S r a w.drew) : (Code.region id l.toArray true).wp P Q a w := by
  refine Code.wp_mono ?_ (wp_region_plan (Q := fun e a' w' => e = .normal ∧ Q .normal a' w') r hm hsel hlen hok (fun _ _ _ _ _ h => by cases h.1) hS h)
  rintro e a w ⟨rfl, h⟩
  exact h
theorem plan_done {a : Act} {w : World} (h : Q .normal a w) : wpPlan P ops Q S [] a w := h
end
end Go.Proofs.Ytnilgnnlobiojaa
