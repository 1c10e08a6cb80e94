/- Regions that draw their order, walked in an order of one's own, where now and then two operations may come up in either order. -/
import Derived.Test.YtnilgnnlobiojaaPlan
namespace Go.Proofs.Ytnilgnnlobiojaa
open Go.RowKit
/-- take: yields its value in whatever world; turn: nothing else may come up; fork: these two, in either order. -/
inductive Stp where
  | take (i : Nat)
  | turn (i : Nat)
  | fork (i j : Nat)
def forkOkR (md : Region.Mode) (ops : Array Oper) : List Stp → Array Bool → Bool
  | [], listed => (Region.ready md ops listed).isEmpty
  | .take i :: r, listed => Region.free md ops listed i && (Region.ready md ops listed).contains i && forkOkR md ops r (listed.setIfInBounds i true)
  | .turn i :: r, listed => (Region.ready md ops listed == [i]) && forkOkR md ops r (listed.setIfInBounds i true)
  | .fork i j :: r, listed => (Region.ready md ops listed == [i, j]) && (Region.ready md ops (listed.setIfInBounds i true) == [j]) && (Region.ready md ops (listed.setIfInBounds j true) == [i]) && forkOkR md ops r ((listed.setIfInBounds i true).setIfInBounds j true)
def stps : List Stp → Nat
  | [] => 0
  | .fork _ _ :: r => stps r + 2
  | _ :: r => stps r + 1
theorem set_commR (listed : Array Bool) (i j : Nat) : (listed.setIfInBounds i true).setIfInBounds j true = (listed.setIfInBounds j true).setIfInBounds i true := by
  by_cases h : i = j
  · subst h; rfl
  · exact Array.setIfInBounds_comm _ _ h
section
variable {P : Program} {ops : Array Oper} {Q : Exit → Act → World → Prop}
def wpTurnR (P : Program) (ops : Array Oper) (Q : Exit → Act → World → Prop) (i : Nat) (K : Act → World → Prop) (a : Act) (w : World) : Prop :=
  ∃ o, ops[i]? = some o ∧ (if Region.wanted o (yielded ops a.tmps) = true then Oper.wp P o a w K Q else K (a.put o.dst undef) w)
def wpForkR (P : Program) (ops : Array Oper) (Q : Exit → Act → World → Prop) : List Stp → Act → World → Prop
  | [], a, w => Q .normal a w
  | .take i :: r, a, w => ∃ o, ops[i]? = some o ∧ (if Region.wanted o (yielded ops a.tmps) = true then ∃ v, (∀ x, (execOp a.eval o).run P x = .ok (.value v) x) ∧ wpForkR P ops Q r (a.put o.dst v) w else wpForkR P ops Q r (a.put o.dst undef) w)
  | .turn i :: r, a, w => wpTurnR P ops Q i (wpForkR P ops Q r) a w
  | .fork i j :: r, a, w => wpTurnR P ops Q i (wpTurnR P ops Q j (wpForkR P ops Q r)) a w ∧ wpTurnR P ops Q j (wpTurnR P ops Q i (wpForkR P ops Q r)) a w
theorem turn_stepR {md : Region.Mode} {S : World → Prop} {fuel i : Nat} {listed : Array Bool} {a : Act} {w : World} {K : Act → World → Prop} (h : wpTurnR P ops Q i K a w) (hS : ∀ w, S w) (hK : ∀ a' w', K a' w' → wpAnyH P md ops Q S fuel (listed.setIfInBounds i true) a' w') :
    wpOp P ops Q i (fun a' w' => S w' ∧ wpAnyH P md ops Q S fuel (listed.setIfInBounds i true) a' w') a w := by
  obtain ⟨o, ho, h⟩ := h
  refine wpOp_step ho fun K' hK' => ?_
  by_cases hw : Region.wanted o (yielded ops a.tmps) = true
  · rw [if_pos hw] at h ⊢
    exact Oper.wp_mono (fun a' w' hk => hK' a' w' ⟨hS _, hK _ _ hk⟩) h
  · rw [if_neg hw] at h ⊢
    exact hK' _ _ ⟨hS _, hK _ _ h⟩
theorem anyH_of_forkR {md : Region.Mode} {S : World → Prop} (hS : ∀ w, S w) (hsel : Region.noSelect ops = true) (hQ : ∀ (d : Option Tmp) (v : Value) c a w, Q (.panic c) (a.put d v) w → Q (.panic c) a w) :
    ∀ (r : List Stp) (listed : Array Bool) (a : Act) (w : World), forkOkR md ops r listed = true → wpForkR P ops Q r a w → wpAnyH P md ops Q S (stps r) listed a w
  | [], listed, a, w, hok, h => wpAnyH_done (by simpa [forkOkR] using hok) h 0
  | .take i :: r, listed, a, w, hok, h => by
    simp only [forkOkR, Bool.and_eq_true] at hok
    obtain ⟨o, ho, h⟩ := h
    by_cases hw : Region.wanted o (yielded ops a.tmps) = true
    · rw [if_pos hw] at h
      obtain ⟨v, hy, h⟩ := h
      exact wpAnyH_take ho hsel hok.1.1 hok.1.2 (hQ _ _) (Or.inl ⟨hw, fun x _ => hy x⟩) (hS _) (anyH_of_forkR hS hsel hQ r _ _ _ hok.2 h)
    · rw [if_neg hw] at h
      exact wpAnyH_take ho hsel hok.1.1 hok.1.2 (hQ _ _) (Or.inr ⟨by simpa using hw, rfl⟩) (hS _) (anyH_of_forkR hS hsel hQ r _ _ _ hok.2 h)
  | .turn i :: r, listed, a, w, hok, h => by
    simp only [forkOkR, Bool.and_eq_true] at hok
    refine wpAnyH_all (rs := [i]) (by simpa using hok.1) (by simp) fun j hj => ?_
    obtain rfl : j = i := by simpa using hj
    exact turn_stepR h hS fun a' w' h' => anyH_of_forkR hS hsel hQ r _ _ _ hok.2 h'
  | .fork i j :: r, listed, a, w, hok, h => by
    simp only [forkOkR, Bool.and_eq_true] at hok
    obtain ⟨⟨⟨h1, h2⟩, h3⟩, h4⟩ := hok
    refine wpAnyH_all (rs := [i, j]) (by simpa using h1) (by simp) fun k hk => ?_
    rcases List.mem_cons.1 hk with rfl | hk
    · refine turn_stepR h.1 hS fun a' w' h' => ?_
      refine wpAnyH_all (rs := [j]) (by simpa using h2) (by simp) fun m hm => ?_
      obtain rfl : m = j := by simpa using hm
      exact turn_stepR h' hS fun a'' w'' h'' => anyH_of_forkR hS hsel hQ r _ _ _ h4 h''
    · obtain rfl : k = j := by simpa using hk
      refine turn_stepR h.2 hS fun a' w' h' => ?_
      refine wpAnyH_all (rs := [i]) (by simpa using h3) (by simp) fun m hm => ?_
      obtain rfl : m = i := by simpa using hm
      exact turn_stepR h' hS fun a'' w'' h'' => anyH_of_forkR hS hsel hQ r _ _ _ (by rw [set_commR]; exact h4) h''
/-- The walk of a region that never panics. -/
theorem wp_region_forkR {id : Nat} {a : Act} {w : World} {l : List Oper} (r : List Stp) (hm : P.follows .mixedOrders = true) (hsel : Region.noSelect l.toArray = true) (hlen : stps r = l.length) (hok : forkOkR .any l.toArray r (Array.replicate l.length false) = true)
    (h : wpForkR P l.toArray (fun e a' w' => e = .normal ∧ Q .normal a' w') r a w.drew) : (Code.region id l.toArray true).wp P Q a w := by
  refine Code.wp_mono (Q := fun e a' w' => e = .normal ∧ Q .normal a' w') ?_ ?_
  · rintro e a w ⟨rfl, h⟩
    exact h
  · refine wp_region_held (S := fun _ => True) hm ?_
    have := anyH_of_forkR (md := .any) (S := fun _ => True) (fun _ => trivial) hsel (fun _ _ _ _ _ h => by cases h.1) r (Array.replicate l.length false) a w.drew hok h
    rw [hlen] at this
    exact this
theorem forkR_take {i : Nat} {r : List Stp} {a : Act} {w : World} {o : Oper} (ho : ops[i]? = some o)
    (h : ∀ K : Act → Prop, (∀ a, wpForkR P ops Q r a w → K a) → if Region.wanted o (yielded ops a.tmps) = true then ∃ v, (∀ x, (execOp a.eval o).run P x = .ok (.value v) x) ∧ K (a.put o.dst v) else K (a.put o.dst undef)) : wpForkR P ops Q (.take i :: r) a w :=
  ⟨o, ho, h (fun a => wpForkR P ops Q r a w) (fun _ h => h)⟩
theorem forkR_turn {i : Nat} {r : List Stp} {a : Act} {w : World} {o : Oper} (ho : ops[i]? = some o)
    (h : ∀ K : Act → World → Prop, (∀ a w', wpForkR P ops Q r a w' → K a w') → if Region.wanted o (yielded ops a.tmps) = true then Oper.wp P o a w K Q else K (a.put o.dst undef) w) : wpForkR P ops Q (.turn i :: r) a w :=
  ⟨o, ho, h _ (fun _ _ h => h)⟩
theorem forkR_both {i j : Nat} {r : List Stp} {a : Act} {w : World} (h1 : wpForkR P ops Q (.turn i :: .turn j :: r) a w) (h2 : wpForkR P ops Q (.turn j :: .turn i :: r) a w) : wpForkR P ops Q (.fork i j :: r) a w := ⟨h1, h2⟩
theorem forkR_done {a : Act} {w : World} (h : Q .normal a w) : wpForkR P ops Q [] a w := h
/-- The same with one parting of the ways, each with its own list behind it. -/
def splitOk (md : Region.Mode) (ops : Array Oper) (i j : Nat) (r1 r2 : List Stp) : List Stp → Array Bool → Bool
  | [], listed => (Region.ready md ops listed == [i, j]) && forkOkR md ops r1 (listed.setIfInBounds i true) && forkOkR md ops r2 (listed.setIfInBounds j true)
  | .take m :: r, listed => Region.free md ops listed m && (Region.ready md ops listed).contains m && splitOk md ops i j r1 r2 r (listed.setIfInBounds m true)
  | .turn m :: r, listed => (Region.ready md ops listed == [m]) && splitOk md ops i j r1 r2 r (listed.setIfInBounds m true)
  | .fork _ _ :: _, _ => false
def wpSplit (P : Program) (ops : Array Oper) (Q : Exit → Act → World → Prop) (i j : Nat) (r1 r2 : List Stp) : List Stp → Act → World → Prop
  | [], a, w => wpForkR P ops Q (.turn i :: r1) a w ∧ wpForkR P ops Q (.turn j :: r2) a w
  | .take m :: r, a, w => ∃ o, ops[m]? = some o ∧ (if Region.wanted o (yielded ops a.tmps) = true then ∃ v, (∀ x, (execOp a.eval o).run P x = .ok (.value v) x) ∧ wpSplit P ops Q i j r1 r2 r (a.put o.dst v) w else wpSplit P ops Q i j r1 r2 r (a.put o.dst undef) w)
  | .turn m :: r, a, w => wpTurnR P ops Q m (wpSplit P ops Q i j r1 r2 r) a w
  | .fork _ _ :: _, _, _ => False
theorem anyH_of_split {md : Region.Mode} {S : World → Prop} (hS : ∀ w, S w) (hsel : Region.noSelect ops = true) (hQ : ∀ (d : Option Tmp) (v : Value) c a w, Q (.panic c) (a.put d v) w → Q (.panic c) a w) (i j : Nat) (r1 r2 : List Stp) (hr : stps r2 = stps r1) :
    ∀ (r : List Stp) (listed : Array Bool) (a : Act) (w : World), splitOk md ops i j r1 r2 r listed = true → wpSplit P ops Q i j r1 r2 r a w → wpAnyH P md ops Q S (stps r1 + 1 + stps r) listed a w
  | [], listed, a, w, hok, h => by
    simp only [splitOk, Bool.and_eq_true] at hok
    obtain ⟨⟨h1, h2⟩, h3⟩ := hok
    refine wpAnyH_all (rs := [i, j]) (by simpa using h1) (by simp) fun k hk => ?_
    rcases List.mem_cons.1 hk with rfl | hk
    · exact turn_stepR h.1 hS fun a' w' h' => anyH_of_forkR hS hsel hQ r1 _ _ _ h2 h'
    · obtain rfl : k = j := by simpa using hk
      refine turn_stepR h.2 hS fun a' w' h' => ?_
      have h4 := anyH_of_forkR hS hsel hQ r2 _ _ _ h3 h'
      rw [hr] at h4
      exact h4
  | .take m :: r, listed, a, w, hok, h => by
    simp only [splitOk, Bool.and_eq_true] at hok
    obtain ⟨o, ho, h⟩ := h
    by_cases hw : Region.wanted o (yielded ops a.tmps) = true
    · rw [if_pos hw] at h
      obtain ⟨v, hy, h⟩ := h
      exact wpAnyH_take ho hsel hok.1.1 hok.1.2 (hQ _ _) (Or.inl ⟨hw, fun x _ => hy x⟩) (hS _) (anyH_of_split hS hsel hQ i j r1 r2 hr r _ _ _ hok.2 h)
    · rw [if_neg hw] at h
      exact wpAnyH_take ho hsel hok.1.1 hok.1.2 (hQ _ _) (Or.inr ⟨by simpa using hw, rfl⟩) (hS _) (anyH_of_split hS hsel hQ i j r1 r2 hr r _ _ _ hok.2 h)
  | .turn m :: r, listed, a, w, hok, h => by
    simp only [splitOk, Bool.and_eq_true] at hok
    refine wpAnyH_all (rs := [m]) (by simpa using hok.1) (by simp) fun k hk => ?_
    obtain rfl : k = m := by simpa using hk
    exact turn_stepR h hS fun a' w' h' => anyH_of_split hS hsel hQ i j r1 r2 hr r _ _ _ hok.2 h'
  | .fork _ _ :: _, _, _, _, hok, _ => by simp [splitOk] at hok
theorem wp_region_split {id : Nat} {a : Act} {w : World} {l : List Oper} (r : List Stp) (i j : Nat) (r1 r2 : List Stp) (hm : P.follows .mixedOrders = true) (hsel : Region.noSelect l.toArray = true) (hr : stps r2 = stps r1) (hlen : stps r1 + 1 + stps r = l.length) (hok : splitOk .any l.toArray i j r1 r2 r (Array.replicate l.length false) = true)
    (h : wpSplit P l.toArray (fun e a' w' => e = .normal ∧ Q .normal a' w') i j r1 r2 r a w.drew) : (Code.region id l.toArray true).wp P Q a w := by
  refine Code.wp_mono (Q := fun e a' w' => e = .normal ∧ Q .normal a' w') ?_ ?_
  · rintro e a w ⟨rfl, h⟩
    exact h
  · refine wp_region_held (S := fun _ => True) hm ?_
    have := anyH_of_split (md := .any) (S := fun _ => True) (fun _ => trivial) hsel (fun _ _ _ _ _ h => by cases h.1) i j r1 r2 hr r (Array.replicate l.length false) a w.drew hok h
    rw [hlen] at this
    exact this
theorem split_take {i j : Nat} {r1 r2 : List Stp} {m : Nat} {r : List Stp} {a : Act} {w : World} {o : Oper} (ho : ops[m]? = some o)
    (h : ∀ K : Act → Prop, (∀ a, wpSplit P ops Q i j r1 r2 r a w → K a) → if Region.wanted o (yielded ops a.tmps) = true then ∃ v, (∀ x, (execOp a.eval o).run P x = .ok (.value v) x) ∧ K (a.put o.dst v) else K (a.put o.dst undef)) : wpSplit P ops Q i j r1 r2 (.take m :: r) a w :=
  ⟨o, ho, h (fun a => wpSplit P ops Q i j r1 r2 r a w) (fun _ h => h)⟩
theorem split_turn {i j : Nat} {r1 r2 : List Stp} {m : Nat} {r : List Stp} {a : Act} {w : World} {o : Oper} (ho : ops[m]? = some o)
    (h : ∀ K : Act → World → Prop, (∀ a w', wpSplit P ops Q i j r1 r2 r a w' → K a w') → if Region.wanted o (yielded ops a.tmps) = true then Oper.wp P o a w K Q else K (a.put o.dst undef) w) : wpSplit P ops Q i j r1 r2 (.turn m :: r) a w :=
  ⟨o, ho, h _ (fun _ _ h => h)⟩
theorem split_both {i j : Nat} {r1 r2 : List Stp} {a : Act} {w : World} (h1 : wpForkR P ops Q (.turn i :: r1) a w) (h2 : wpForkR P ops Q (.turn j :: r2) a w) : wpSplit P ops Q i j r1 r2 [] a w := ⟨h1, h2⟩
end
end Go.Proofs.Ytnilgnnlobiojaa
