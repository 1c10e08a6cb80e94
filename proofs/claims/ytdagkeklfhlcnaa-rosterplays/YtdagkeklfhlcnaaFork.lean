/- Regions that draw their order, walked in an order of one's own, where now and then two operations may come up in either order. -/
import Derived.Test.YtdagkeklfhlcnaaPlan
namespace Go.Proofs.Ytdagkeklfhlcnaa
open Go.RowKit
/-- take: yields its value in whatever world; turn: nothing else may come up; fork: these two, in either order. -/
inductive Stp where
  | take (i : Nat)
  | turn (i : Nat)
  | fork (i j : Nat)
def forkOk (md : Region.Mode) (ops : Array Oper) : List Stp → Array Bool → Bool
  | [], listed => (Region.ready md ops listed).isEmpty
  | .take i :: r, listed => Region.free md ops listed i && (Region.ready md ops listed).contains i && forkOk md ops r (listed.setIfInBounds i true)
  | .turn i :: r, listed => (Region.ready md ops listed == [i]) && forkOk md ops r (listed.setIfInBounds i true)
  | .fork i j :: r, listed => (Region.ready md ops listed == [i, j]) && (Region.ready md ops (listed.setIfInBounds i true) == [j]) && (Region.ready md ops (listed.setIfInBounds j true) == [i]) && forkOk md ops r ((listed.setIfInBounds i true).setIfInBounds j true)
def stps : List Stp → Nat
  | [] => 0
  | .fork _ _ :: r => stps r + 2
  | _ :: r => stps r + 1
theorem set_comm (listed : Array Bool) (i j : Nat) : (listed.setIfInBounds i true).setIfInBounds j true = (listed.setIfInBounds j true).setIfInBounds i true := by
  by_cases h : i = j
  · subst h; rfl
  · exact Array.setIfInBounds_comm _ _ h
section
variable {P : Program} {ops : Array Oper} {Q : Exit → Act → World → Prop}
def wpTurn (P : Program) (ops : Array Oper) (Q : Exit → Act → World → Prop) (i : Nat) (K : Act → World → Prop) (a : Act) (w : World) : Prop :=
  ∃ o, ops[i]? = some o ∧ (if Region.wanted o (yielded ops a.tmps) = true then Oper.wp P o a w K Q else K (a.put o.dst undef) w)
def wpFork (P : Program) (ops : Array Oper) (Q : Exit → Act → World → Prop) : List Stp → Act → World → Prop
  | [], a, w => Q .normal a w
  | .take i :: r, a, w => ∃ o, ops[i]? = some o ∧ (if Region.wanted o (yielded ops a.tmps) = true then ∃ v, (∀ x, (execOp a.eval o).run P x = .ok (.value v) x) ∧ wpFork P ops Q r (a.put o.dst v) w else wpFork P ops Q r (a.put o.dst undef) w)
  | .turn i :: r, a, w => wpTurn P ops Q i (wpFork P ops Q r) a w
  | .fork i j :: r, a, w => wpTurn P ops Q i (wpTurn P ops Q j (wpFork P ops Q r)) a w ∧ wpTurn P ops Q j (wpTurn P ops Q i (wpFork P ops Q r)) a w
theorem turn_step {md : Region.Mode} {S : World → Prop} {fuel i : Nat} {listed : Array Bool} {a : Act} {w : World} {K : Act → World → Prop} (h : wpTurn P ops Q i K a w) (hS : ∀ w, S w) (hK : ∀ a' w', K a' w' → wpAnyH P md ops Q S fuel (listed.setIfInBounds i true) a' w') :
    wpOp P ops Q i (fun a' w' => S w' ∧ wpAnyH P md ops Q S fuel (listed.setIfInBounds i true) a' w') a w := by
  obtain ⟨o, ho, h⟩ := h
  refine wpOp_step ho fun K' hK' => ?_
  by_cases hw : Region.wanted o (yielded ops a.tmps) = true
  · rw [if_pos hw] at h ⊢
    exact Oper.wp_mono (fun a' w' hk => hK' a' w' ⟨hS _, hK _ _ hk⟩) h
  · rw [if_neg hw] at h ⊢
    exact hK' _ _ ⟨hS _, hK _ _ h⟩
theorem anyH_of_fork {md : Region.Mode} {S : World → Prop} (hS : ∀ w, S w) (hsel : Region.noSelect ops = true) (hQ : ∀ (d : Option Tmp) (v : Value) c a w, Q (.panic c) (a.put d v) w → Q (.panic c) a w) :
    ∀ (r : List Stp) (listed : Array Bool) (a : Act) (w : World), forkOk md ops r listed = true → wpFork P ops Q r a w → wpAnyH P md ops Q S (stps r) listed a w
  | [], listed, a, w, hok, h => wpAnyH_done (by simpa [forkOk] using hok) h 0
  | .take i :: r, listed, a, w, hok, h => by
    simp only [forkOk, Bool.and_eq_true] at hok
    obtain ⟨o, ho, h⟩ := h
    by_cases hw : Region.wanted o (yielded ops a.tmps) = true
    · rw [if_pos hw] at h
      obtain ⟨v, hy, h⟩ := h
      exact wpAnyH_take ho hsel hok.1.1 hok.1.2 (hQ _ _) (Or.inl ⟨hw, fun x _ => hy x⟩) (hS _) (anyH_of_fork hS hsel hQ r _ _ _ hok.2 h)
    · rw [if_neg hw] at h
      exact wpAnyH_take ho hsel hok.1.1 hok.1.2 (hQ _ _) (Or.inr ⟨by simpa using hw, rfl⟩) (hS _) (anyH_of_fork hS hsel hQ r _ _ _ hok.2 h)
  | .turn i :: r, listed, a, w, hok, h => by
    simp only [forkOk, Bool.and_eq_true] at hok
    refine wpAnyH_all (rs := [i]) (by simpa using hok.1) (by simp) fun j hj => ?_
    obtain rfl : j = i := by simpa using hj
    exact turn_step h hS fun a' w' h' => anyH_of_fork hS hsel hQ r _ _ _ hok.2 h'
  | .fork i j :: r, listed, a, w, hok, h => by
    simp only [forkOk, Bool.and_eq_true] at hok
    obtain ⟨⟨⟨h1, h2⟩, h3⟩, h4⟩ := hok
    refine wpAnyH_all (rs := [i, j]) (by simpa using h1) (by simp) fun k hk => ?_
    rcases List.mem_cons.1 hk with rfl | hk
    · refine turn_step h.1 hS fun a' w' h' => ?_
      refine wpAnyH_all (rs := [j]) (by simpa using h2) (by simp) fun m hm => ?_
      obtain rfl : m = j := by simpa using hm
      exact turn_step h' hS fun a'' w'' h'' => anyH_of_fork hS hsel hQ r _ _ _ h4 h''
    · obtain rfl : k = j := by simpa using hk
      refine turn_step h.2 hS fun a' w' h' => ?_
      refine wpAnyH_all (rs := [i]) (by simpa using h3) (by simp) fun m hm => ?_
      obtain rfl : m = i := by simpa using hm
      exact turn_step h' hS fun a'' w'' h'' => anyH_of_fork hS hsel hQ r _ _ _ (by rw [set_comm]; exact h4) h''
/-- The walk of a region that never panics. -/
theorem wp_region_fork {id : Nat} {a : Act} {w : World} {l : List Oper} (r : List Stp) (hm : P.follows .mixedOrders = true) (hsel : Region.noSelect l.toArray = true) (hlen : stps r = l.length) (hok : forkOk .any l.toArray r (Array.replicate l.length false) = true)
    (h : wpFork P l.toArray (fun e a' w' => e = .normal ∧ Q .normal a' w') r a w.drew) : (Code.region id l.toArray true).wp P Q a w := by
  refine Code.wp_mono (Q := fun e a' w' => e = .normal ∧ Q .normal a' w') ?_ ?_
  · rintro e a w ⟨rfl, h⟩
    exact h
  · refine wp_region_held (S := fun _ => True) hm ?_
    have := anyH_of_fork (md := .any) (S := fun _ => True) (fun _ => trivial) hsel (fun _ _ _ _ _ h => by cases h.1) r (Array.replicate l.length false) a w.drew hok h
    rw [hlen] at this
    exact this
theorem fork_take {i : Nat} {r : List Stp} {a : Act} {w : World} {o : Oper} (ho : ops[i]? = some o)
    (h : ∀ K : Act → Prop, (∀ a, wpFork P ops Q r a w → K a) → if Region.wanted o (yielded ops a.tmps) = true then ∃ v, (∀ x, (execOp a.eval o).run P x = .ok (.value v) x) ∧ K (a.put o.dst v) else K (a.put o.dst undef)) : wpFork P ops Q (.take i :: r) a w :=
  ⟨o, ho, h (fun a => wpFork P ops Q r a w) (fun _ h => h)⟩
theorem fork_turn {i : Nat} {r : List Stp} {a : Act} {w : World} {o : Oper} (ho : ops[i]? = some o)
    (h : ∀ K : Act → World → Prop, (∀ a w', wpFork P ops Q r a w' → K a w') → if Region.wanted o (yielded ops a.tmps) = true then Oper.wp P o a w K Q else K (a.put o.dst undef) w) : wpFork P ops Q (.turn i :: r) a w :=
  ⟨o, ho, h _ (fun _ _ h => h)⟩
theorem fork_both {i j : Nat} {r : List Stp} {a : Act} {w : World} (h1 : wpFork P ops Q (.turn i :: .turn j :: r) a w) (h2 : wpFork P ops Q (.turn j :: .turn i :: r) a w) : wpFork P ops Q (.fork i j :: r) a w := ⟨h1, h2⟩
theorem fork_done {a : Act} {w : World} (h : Q .normal a w) : wpFork P ops Q [] a w := h
end
end Go.Proofs.Ytdagkeklfhlcnaa
