/- Who is near (pure), and a loop over no map. -/
import Derived.Test.YtnilgnnlobiojaaSort
import Derived.Test.YtnilgnnlobiojaaGdist
import Derived.Test.YtnilgnnlobiojaaTake
namespace Go.Proofs.Ytnilgnnlobiojaa
open Go.RowKit
/-- The ID p.1 is somewhere, p.2 is how far that is from (x, y), and at most r. -/
def Near (F : Int → Option Cl) (x y r : Int) (p : Fd) : Prop := ∃ c, F p.1 = some c ∧ p.2 = dist x y c.1 c.2 ∧ p.2 ≤ r
/-- What is gathered when the cells of left are still to come. -/
def Got (F : Int → Option Cl) (x y r : Int) (left : Cl → Bool) (l : List Fd) : Prop :=
  l.Nodup ∧ ∀ p, p ∈ l ↔ ∃ c, F p.1 = some c ∧ left c = false ∧ p.2 = dist x y c.1 c.2 ∧ p.2 ≤ r
theorem Got.skip {F : Int → Option Cl} {x y r : Int} {left : Cl → Bool} {l : List Fd} (h : Got F x y r left l) {c : Cl} (hd : r < dist x y c.1 c.2) : Got F x y r (fun z => left z && !(z == c)) l := by
  refine ⟨h.1, fun p => ?_⟩
  rw [h.2]
  constructor
  · rintro ⟨d, h1, h2, h3⟩
    exact ⟨d, h1, by simp [h2], h3⟩
  · rintro ⟨d, h1, h2, h3, h4⟩
    refine ⟨d, h1, ?_, h3, h4⟩
    by_cases hdc : d = c
    · subst hdc; omega
    · simpa [hdc] using h2
theorem Got.more {A : Cl → List Int} {F : Int → Option Cl} {n : Nat} (hok : Ok A F n) {x y r : Int} {left : Cl → Bool} {l : List Fd} (h : Got F x y r left l) {c : Cl} (hl : left c = true) (hd : dist x y c.1 c.2 ≤ r) :
    Got F x y r (fun z => left z && !(z == c)) (l ++ (A c).map fun i => (i, dist x y c.1 c.2)) := by
  refine ⟨?_, fun p => ?_⟩
  · rw [List.nodup_append]
    refine ⟨h.1, ?_, fun p hp q hq => ?_⟩
    · refine List.Pairwise.map _ (fun a b hab => ?_) (hok.inc c)
      intro e
      simp at e
      omega
    · rintro rfl
      obtain ⟨d, h1, h2, _⟩ := (h.2 p).1 hp
      obtain ⟨i, hi, rfl⟩ := List.mem_map.1 hq
      rw [hok.mem] at hi
      rw [hi] at h1
      cases h1
      rw [hl] at h2; cases h2
  · rw [List.mem_append, h.2, List.mem_map]
    constructor
    · rintro (⟨d, h1, h2, h3⟩ | ⟨i, hi, rfl⟩)
      · exact ⟨d, h1, by simp [h2], h3⟩
      · rw [hok.mem] at hi
        exact ⟨c, hi, by simp, rfl, hd⟩
    · rintro ⟨d, h1, h2, h3, h4⟩
      by_cases hdc : d = c
      · subst hdc
        refine Or.inr ⟨p.1, (hok.mem d p.1).2 h1, ?_⟩
        rw [← h3]
      · exact Or.inl ⟨d, h1, by simpa [hdc] using h2, h3, h4⟩
theorem Got.len {A : Cl → List Int} {F : Int → Option Cl} {n : Nat} (hok : Ok A F n) {x y r : Int} {left : Cl → Bool} {l : List Fd} (h : Got F x y r left l) : l.length ≤ n := by
  obtain ⟨m, rfl, _, hm⟩ := hok.fin
  have h1 : (l.map Prod.fst).Nodup := by
    refine List.pairwise_map.2 (h.1.imp_of_mem fun {p q} hp hq hne e => hne ?_)
    obtain ⟨c, h1, _, h3, _⟩ := (h.2 p).1 hp
    obtain ⟨d, k1, _, k3, _⟩ := (h.2 q).1 hq
    rw [e, k1] at h1
    cases h1
    exact Prod.ext e (by rw [h3, k3])
  have h2 := nodup_le (l.map Prod.fst) m h1 fun i hi => by
    obtain ⟨p, hp, rfl⟩ := List.mem_map.1 hi
    obtain ⟨c, h1, _⟩ := (h.2 p).1 hp
    rw [hm, h1]; rfl
  simpa using h2
theorem Got.done {F : Int → Option Cl} {x y r : Int} {left : Cl → Bool} {l : List Fd} (h : Got F x y r left l) (hl : ∀ c, left c = false) : l.Nodup ∧ ∀ p, p ∈ l ↔ Near F x y r p := by
  refine ⟨h.1, fun p => ?_⟩
  rw [h.2]
  constructor
  · rintro ⟨c, h1, _, h3⟩
    exact ⟨c, h1, h3⟩
  · rintro ⟨c, h1, h3⟩
    exact ⟨c, h1, hl c, h3⟩
theorem Got.start {F : Int → Option Cl} {x y r : Int} {left : Cl → Bool} (h : ∀ i c, F i = some c → left c = true) : Got F x y r left [] :=
  ⟨List.nodup_nil, fun p => ⟨fun h => absurd h List.not_mem_nil, fun ⟨c, h1, h2, _⟩ => by rw [h _ _ h1] at h2; cases h2⟩⟩
/-- A loop over no map. -/
def NIter (w : World) (r : Nat) : Prop := w.heap[r]? = some (.mapIter none 0 #[] 0)
theorem run_rangeN (w : World) : (Instr.range 52 (.map none)).run Try.prog w = .ok (.pointer (some ⟨w.heap.size, 0, none⟩)) (w.alloc (.mapIter none 0 #[] 0)) := by
  unfold Instr.range
  rw [Sem.run_bind, run_underlying Try.underlying52, Result.andThen_ok]
  rfl
theorem run_nextN {w : World} {r : Nat} (h : NIter w r) (ty : TypeId) : (Instr.next (.pointer (some ⟨r, 0, none⟩)) false ty).run Try.prog w = .ok (.tuple #[.bool false]) w := by
  unfold Instr.next
  have hobj : (getObj r).run Try.prog w = .ok (.mapIter none 0 #[] 0) w := by
    unfold NIter at h
    simp [getObj, Sem.run, h]
  simp only [Sem.run_bind, hobj, Result.andThen_ok]
  rfl
theorem wpL_rangeN {ops : Array Oper} {rest : List Oper} {Q : Exit → Act → World → Prop} {a : Act} {w : World} {dd : Option Tmp} {m : Operand} {tt : TypeId} {pos : String} {af : Array Edge}
    (hm : a.eval m = .map none)
    (h : wpList Try.prog ops Q rest (a.put dd (.pointer (some ⟨w.heap.size, 0, none⟩))) (w.alloc (.mapIter none 0 #[] 0))) :
    wpList Try.prog ops Q ({ dst := dd, op := .range 52 m, type := tt, pos := pos, after := af, guard := .none } :: rest) a w := by
  refine wpList_plain rfl fun K hK => ?_
  unfold Oper.wp
  have hr := run_rangeN w
  simp [execOp, hm, hr, Result.andThen]
  exact hK _ _ h
theorem wpL_nextN {ops : Array Oper} {rest : List Oper} {Q : Exit → Act → World → Prop} {a : Act} {w : World} {dd : Option Tmp} {it : Operand} {tt : TypeId} {pos : String} {af : Array Edge} (r : Nat)
    (hit : a.eval it = .pointer (some ⟨r, 0, none⟩)) (h : NIter w r)
    (hDone : wpList Try.prog ops Q rest (a.put dd (.tuple #[.bool false])) w) :
    wpList Try.prog ops Q ({ dst := dd, op := .next it false, type := tt, pos := pos, after := af, guard := .none } :: rest) a w := by
  refine wpList_plain rfl fun K hK => ?_
  unfold Oper.wp
  have hr := run_nextN h tt
  simp [execOp, hit, hr, Result.andThen]
  exact hK _ _ hDone
end Go.Proofs.Ytnilgnnlobiojaa
