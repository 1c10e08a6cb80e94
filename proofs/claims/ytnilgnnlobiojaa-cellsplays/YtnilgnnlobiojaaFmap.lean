/- Maps whose keys are cells, that a call makes: what they hold, key by key. -/
import Derived.Test.YtnilgnnlobiojaaOwn
import Derived.Maps.OwnOps
import Derived.Maps.RangeWalk
namespace Go.Proofs.Ytnilgnnlobiojaa
open Go.RowKit
/-- A cell as a value. -/
def C (x y : Int) : Value := .agg #[.int .i64 x, .int .i64 y]
/-- An entry of a map keyed by cells. -/
def ent (p : (Int × Int) × Value × Nat) : MapEntry := { key := C p.1.1 p.1.2, val := p.2.1, born := p.2.2 }
/-- Where a key stands. -/
def findC (c : Int × Int) : List ((Int × Int) × Value × Nat) → Nat → Option (Nat × Value)
  | [], _ => none
  | e :: es, i => if c = e.1 then some (i, e.2.1) else findC c es (i + 1)
theorem run_eqIn (n : Nat) (a b c d : Int) (w : World) : (Op.equalIn (n + 2) 32 (C a b) (C c d)).run Try.prog w = .ok (a == c && b == d) w := by
  unfold C
  rw [run_equalIn_agg w (n + 1) 32 _ _ (by kernel_rfl) (by kernel_rfl)]
  cases h : (a == c) <;> cases h2 : (b == d) <;> simp at h2 <;> simp [h, h2, go_sem]
theorem run_eqC (a b c d : Int) (w : World) : (Op.equal 32 (C a b) (C c d)).run Try.prog w = .ok (a == c && b == d) w := run_eqIn 9998 a b c d w
theorem run_checkIn (n : Nat) (e : Bool) (a b : Int) (w : World) : (Instr.checkKey e (n + 2) 32 (C a b)).run Try.prog w = .ok () w := by
  have h3 : ∀ k v w, (Instr.checkKey e (k + 1) 3 (.int .i64 v)).run Try.prog w = .ok () w := fun k v w => by
    rw [Instr.checkKey, Sem.run_bind, run_underlying Try.underlying3]; rfl
  unfold C
  rw [Instr.checkKey, Sem.run_bind, run_underlying Try.underlying32]
  simp [h3, go_sem]
theorem run_checkC (e : Bool) (a b : Int) (w : World) : (Instr.checkKey e 10000 32 (C a b)).run Try.prog w = .ok () w := run_checkIn 9998 e a b w
theorem run_staysC (a b : Int) (w : World) : (Instr.keyThatStays (C a b) (C a b)).run Try.prog w = .ok (C a b) w := by
  have : Instr.sameBits 10000 (C a b) (C a b) = true := by simp [C, Instr.sameBits]
  unfold Instr.keyThatStays
  rw [if_pos this]; rfl
theorem run_findAskC (c : Int × Int) (w : World) : ∀ (l : List ((Int × Int) × Value × Nat)) (i : Nat), (Instr.findAsking 32 (C c.1 c.2) (l.map ent) i).run Try.prog w = .ok (findC c l i) w
  | [], i => rfl
  | e :: es, i => by
    rw [List.map_cons, Instr.findAsking, Sem.run_bind, show (ent e).key = C e.1.1 e.1.2 from rfl, run_eqC]
    simp only [Result.andThen_ok, findC]
    by_cases h : c = e.1
    · rw [if_pos h]
      subst h
      simp [ent]
    · rw [if_neg h]
      have : (c.1 == e.1.1 && c.2 == e.1.2) = false := by
        rw [Bool.and_eq_false_iff]
        rcases c with ⟨c1, c2⟩
        rcases e with ⟨⟨e1, e2⟩, _⟩
        simp at h ⊢
        by_cases h1 : c1 = e1
        · exact Or.inr (h h1)
        · exact Or.inl h1
      rw [this]
      simp only [Bool.false_eq_true, if_false]
      exact run_findAskC c w es (i + 1)
theorem run_findC (c : Int × Int) (w : World) (l : List ((Int × Int) × Value × Nat)) : (Instr.findKey 32 (C c.1 c.2) (l.map ent)).run Try.prog w = .ok (findC c l 0) w := by
  unfold Instr.findKey
  rw [Sem.run_bind, run_underlying Try.underlying32, Result.andThen_ok]
  cases l with
  | nil => rfl
  | cons e es =>
    have : ∀ k, Instr.findNow (TypeDesc.struct k) (C c.1 c.2) ((e :: es).map ent) 0 = none := fun k => by simp [Instr.findNow, Instr.sameNow]
    rw [this]
    exact run_findAskC c w (e :: es) 0
/-- No key and no stamp stands twice, and no stamp is of the future. -/
structure Fine (l : List ((Int × Int) × Value × Nat)) (ck : Nat) : Prop where
  keys : (l.map (·.1)).Nodup
  born : (l.map (·.2.2)).Nodup
  past : ∀ e ∈ l, e.2.2 < ck
/-- Block b is a map keyed by cells that holds f. -/
def FMap (w : World) (b : Nat) (f : Int × Int → Option Value) : Prop := ∃ es ck l, w.heap[b]? = some (.map es ck) ∧ es.toList = l.map ent ∧ (∀ c, (findC c l 0).map (·.2) = f c) ∧ Fine l ck
theorem FMap.keep {w w' : World} {b : Nat} {f : Int × Int → Option Value} (h : FMap w b f) (hb : w'.heap[b]? = w.heap[b]?) : FMap w' b f := by
  obtain ⟨es, ck, l, h1, h2⟩ := h
  exact ⟨es, ck, l, hb.trans h1, h2⟩
theorem FMap.lt {w : World} {b : Nat} {f : Int × Int → Option Value} (h : FMap w b f) : b < w.heap.size := by
  obtain ⟨es, ck, l, h1, h2⟩ := h
  exact (Array.getElem?_eq_some_iff.1 h1).1
theorem FMap.below {w w' : World} {b B : Nat} {f : Int × Int → Option Value} (h : FMap w b f) (hb : Below B w w') (hB : b < B) : FMap w' b f := h.keep (hb.block b hB)
theorem FMap.new (w : World) : FMap (w.alloc (.map #[] 0)) w.heap.size (fun _ => none) := ⟨#[], 0, [], by unfold World.alloc; simp, rfl, fun _ => rfl, ⟨by simp, by simp, by simp⟩⟩
theorem findC_shift (c : Int × Int) : ∀ (l : List ((Int × Int) × Value × Nat)) (i j : Nat), (findC c l (i + j)) = (findC c l i).map (fun p => (p.1 + j, p.2))
  | [], _, _ => rfl
  | e :: es, i, j => by
    unfold findC
    by_cases h : c = e.1
    · rw [if_pos h, if_pos h]; rfl
    · rw [if_neg h, if_neg h, show i + j + 1 = (i + 1) + j by omega, findC_shift c es (i + 1) j]
/-- A value is laid at a key that is there. -/
def setC (c : Int × Int) (v : Value) : List ((Int × Int) × Value × Nat) → List ((Int × Int) × Value × Nat)
  | [] => []
  | e :: es => if c = e.1 then (e.1, v, e.2.2) :: es else e :: setC c v es
theorem setC_modify (c : Int × Int) (v : Value) (g : MapEntry → MapEntry) (hg : ∀ e : (Int × Int) × Value × Nat, e.1 = c → g (ent e) = ent (e.1, v, e.2.2)) : ∀ (l : List ((Int × Int) × Value × Nat)) (i : Nat) (u : Value), findC c l 0 = some (i, u) →
    (l.map ent).modify i g = (setC c v l).map ent ∧ ∃ e, (l.map ent)[i]? = some e ∧ e.key = C c.1 c.2
  | [], _, _, h => by cases h
  | e :: es, i, u, h => by
    unfold findC at h
    unfold setC
    by_cases hc : c = e.1
    · rw [if_pos hc] at h ⊢
      cases h
      refine ⟨?_, ent e, rfl, by rw [hc]; rfl⟩
      rw [List.map_cons, List.modify_zero_cons, hg e hc.symm]; rfl
    · rw [if_neg hc] at h ⊢
      rw [findC_shift c es 0 1] at h
      cases hf : findC c es 0 with
      | none => rw [hf] at h; cases h
      | some p =>
        rw [hf] at h
        cases h
        obtain ⟨h1, h2⟩ := setC_modify c v g hg es p.1 p.2 hf
        exact ⟨by rw [List.map_cons, List.modify_succ_cons, h1]; rfl, h2⟩
theorem findC_setC (c : Int × Int) (v : Value) (d : Int × Int) : ∀ (l : List ((Int × Int) × Value × Nat)) (i : Nat), (findC c l i).isSome → (findC d (setC c v l) i).map (·.2) = if d = c then some v else (findC d l i).map (·.2)
  | [], i, h => by cases h
  | e :: es, i, h => by
    unfold findC at h
    unfold setC
    by_cases hc : c = e.1
    · rw [if_pos hc]
      unfold findC
      simp only
      subst hc
      by_cases hd : d = e.1
      · rw [if_pos hd, if_pos hd]; rfl
      · rw [if_neg hd, if_neg hd, if_neg hd]
    · rw [if_neg hc] at h ⊢
      unfold findC
      by_cases hd : d = e.1
      · rw [if_pos hd, if_pos hd, if_neg (by rw [hd]; exact fun h => hc h.symm)]
      · rw [if_neg hd, if_neg hd]
        exact findC_setC c v d es (i + 1) h
theorem findC_push (c : Int × Int) (v : Value) (ck : Nat) (d : Int × Int) : ∀ (l : List ((Int × Int) × Value × Nat)) (i : Nat), findC c l i = none → (findC d (l ++ [(c, v, ck)]) i).map (·.2) = if d = c then some v else (findC d l i).map (·.2)
  | [], i, _ => by
    show (findC d [(c, v, ck)] i).map (·.2) = if d = c then some v else none
    unfold findC
    by_cases hd : d = c
    · rw [if_pos hd, if_pos hd]; rfl
    · rw [if_neg hd, if_neg hd]; rfl
  | e :: es, i, h => by
    unfold findC at h
    by_cases hc : c = e.1
    · rw [if_pos hc] at h; cases h
    · rw [if_neg hc] at h
      rw [List.cons_append]
      unfold findC
      by_cases hd : d = e.1
      · rw [if_pos hd, if_pos hd, if_neg (by rw [hd]; exact fun h => hc h.symm)]
      · rw [if_neg hd, if_neg hd]
        exact findC_push c v ck d es (i + 1) h
theorem findC_none {c : Int × Int} : ∀ {l : List ((Int × Int) × Value × Nat)} {i : Nat}, findC c l i = none → c ∉ l.map (·.1)
  | [], _, _ => by simp
  | e :: es, i, h => by
    unfold findC at h
    by_cases hc : c = e.1
    · rw [if_pos hc] at h; cases h
    · rw [if_neg hc] at h
      have := findC_none h
      simp only [List.map_cons, List.mem_cons, not_or]
      exact ⟨hc, this⟩
theorem setC_keys (c : Int × Int) (v : Value) : ∀ l : List ((Int × Int) × Value × Nat), (setC c v l).map (·.1) = l.map (·.1) ∧ (setC c v l).map (·.2.2) = l.map (·.2.2)
  | [] => ⟨rfl, rfl⟩
  | e :: es => by
    unfold setC
    by_cases hc : c = e.1
    · rw [if_pos hc]; exact ⟨rfl, rfl⟩
    · rw [if_neg hc]
      obtain ⟨h1, h2⟩ := setC_keys c v es
      exact ⟨by rw [List.map_cons, List.map_cons, h1], by rw [List.map_cons, List.map_cons, h2]⟩
theorem Fine.set {l : List ((Int × Int) × Value × Nat)} {ck : Nat} (h : Fine l ck) (c : Int × Int) (v : Value) : Fine (setC c v l) ck := by
  obtain ⟨h1, h2⟩ := setC_keys c v l
  refine ⟨by rw [h1]; exact h.keys, by rw [h2]; exact h.born, fun e he => ?_⟩
  have : e.2.2 ∈ (setC c v l).map (·.2.2) := List.mem_map.2 ⟨e, he, rfl⟩
  rw [h2] at this
  obtain ⟨e', he', hee⟩ := List.mem_map.1 this
  rw [← hee]; exact h.past e' he'
theorem Fine.push {l : List ((Int × Int) × Value × Nat)} {ck : Nat} (h : Fine l ck) {c : Int × Int} (v : Value) (hc : c ∉ l.map (·.1)) : Fine (l ++ [(c, v, ck)]) (ck + 1) := by
  refine ⟨?_, ?_, fun e he => ?_⟩
  · rw [List.map_append, List.nodup_append]
    refine ⟨h.keys, by simp, fun x hx y hy => ?_⟩
    simp at hy
    subst hy
    exact fun he => hc (he ▸ hx)
  · rw [List.map_append, List.nodup_append]
    refine ⟨h.born, by simp, fun x hx y hy => ?_⟩
    simp at hy
    subst hy
    obtain ⟨e, he, rfl⟩ := List.mem_map.1 hx
    have := h.past e he
    omega
  · rcases List.mem_append.1 he with he | he
    · have := h.past e he; omega
    · simp at he; subst he; exact Nat.lt_succ_self _
/-- A key is taken out. -/
def delC (c : Int × Int) : List ((Int × Int) × Value × Nat) → List ((Int × Int) × Value × Nat)
  | [] => []
  | e :: es => if c = e.1 then es else e :: delC c es
theorem delC_erase (c : Int × Int) : ∀ (l : List ((Int × Int) × Value × Nat)) (i : Nat) (u : Value), findC c l 0 = some (i, u) → (l.map ent).eraseIdx i = (delC c l).map ent ∧ i < l.length
  | [], _, _, h => by cases h
  | e :: es, i, u, h => by
    unfold findC at h
    unfold delC
    by_cases hc : c = e.1
    · rw [if_pos hc] at h ⊢
      cases h
      exact ⟨rfl, by simp⟩
    · rw [if_neg hc] at h ⊢
      rw [findC_shift c es 0 1] at h
      cases hf : findC c es 0 with
      | none => rw [hf] at h; cases h
      | some p =>
        rw [hf] at h
        cases h
        obtain ⟨h1, h2⟩ := delC_erase c es p.1 p.2 hf
        exact ⟨by rw [List.map_cons, List.eraseIdx_cons_succ, h1]; rfl, by simp; exact h2⟩
theorem delC_sub (c : Int × Int) : ∀ l : List ((Int × Int) × Value × Nat), (delC c l).Sublist l
  | [] => by unfold delC; exact List.Sublist.refl _
  | e :: es => by
    unfold delC
    by_cases hc : c = e.1
    · rw [if_pos hc]; exact List.sublist_cons_self _ _
    · rw [if_neg hc]; exact (delC_sub c es).cons_cons _
theorem Fine.del {l : List ((Int × Int) × Value × Nat)} {ck : Nat} (h : Fine l ck) (c : Int × Int) : Fine (delC c l) ck :=
  ⟨((delC_sub c l).map _).nodup h.keys, ((delC_sub c l).map _).nodup h.born, fun e he => h.past e ((delC_sub c l).subset he)⟩
theorem findC_not {d : Int × Int} : ∀ {l : List ((Int × Int) × Value × Nat)} {i : Nat}, d ∉ l.map (·.1) → findC d l i = none
  | [], _, _ => rfl
  | e :: es, i, h => by
    simp only [List.map_cons, List.mem_cons, not_or] at h
    unfold findC
    rw [if_neg h.1]
    exact findC_not h.2
theorem findC_delC (c d : Int × Int) : ∀ (l : List ((Int × Int) × Value × Nat)), (l.map (·.1)).Nodup → (findC d (delC c l) 0).map (·.2) = if d = c then none else (findC d l 0).map (·.2)
  | [], _ => by unfold delC findC; simp
  | e :: es, h => by
    rw [List.map_cons, List.nodup_cons] at h
    unfold delC
    by_cases hc : c = e.1
    · rw [if_pos hc]
      by_cases hd : d = c
      · rw [if_pos hd, findC_not (by rw [hd, hc]; exact h.1)]; rfl
      · rw [if_neg hd]
        conv => rhs; unfold findC
        rw [if_neg (by rw [← hc]; exact hd), findC_shift d es 0 1]
        cases findC d es 0 <;> rfl
    · rw [if_neg hc]
      unfold findC
      by_cases hd : d = e.1
      · rw [if_pos hd, if_pos hd, if_neg (by rw [hd]; exact fun h => hc h.symm)]
      · rw [if_neg hd, if_neg hd, findC_shift d (delC c es) 0 1, findC_shift d es 0 1]
        have := findC_delC c d es h.2
        cases h1 : findC d (delC c es) 0 <;> cases h2 : findC d es 0 <;> rw [h1, h2] at this <;> exact this
theorem findC_mem : ∀ {l : List ((Int × Int) × Value × Nat)} {i : Nat}, (l.map (·.1)).Nodup → ∀ e ∈ l, (findC e.1 l i).map (·.2) = some e.2.1
  | [], _, _, e, he => by cases he
  | x :: es, i, h, e, he => by
    rw [List.map_cons, List.nodup_cons] at h
    unfold findC
    rcases List.mem_cons.1 he with rfl | he
    · rw [if_pos rfl]; rfl
    · rw [if_neg (fun heq => h.1 (by rw [← heq]; exact List.mem_map.2 ⟨e, he, rfl⟩))]
      exact findC_mem h.2 e he
/-- What is laid at a key of a map. -/
def putF (f : Int × Int → Option Value) (c : Int × Int) (v : Value) : Int × Int → Option Value := fun d => if d = c then some v else f d
/-- Only block b has turned, and it is as big. -/
structure Turn (b : Nat) (w w' : World) : Prop where
  os : w'.os = w.os
  tape : w'.tape = w.tape
  output : w'.output = w.output
  size : w'.heap.size = w.heap.size
  block : ∀ k, k ≠ b → w'.heap[k]? = w.heap[k]?
theorem Turn.below {b B : Nat} {w w' : World} (h : Turn b w w') (hB : B ≤ b) : Below B w w' := ⟨h.os, h.tape, h.output, by rw [h.size]; exact Nat.le_refl _, fun k hk => h.block k (by omega)⟩
theorem Turn.undrew {b : Nat} {w w' : World} (h : Turn b w.drew w') : Turn b w w' := ⟨h.os, h.tape, h.output, h.size, h.block⟩
theorem FMap.update {w : World} {b : Nat} {f : Int × Int → Option Value} (h : FMap w b f) (T E : TypeId) (hT : Try.prog.underlying T = some (.map 32 E)) (x y : Int) (v : Value) :
    ∃ w', (Instr.mapUpdate T (.map (some b)) (C x y) v).run Try.prog w = .ok () w' ∧ FMap w' b (putF f (x, y) v) ∧ Turn b w w' := by
  obtain ⟨es, ck, l, h1, h2, h3, h4⟩ := h
  have hlt := (Array.getElem?_eq_some_iff.1 h1).1
  have hfind := run_findC (x, y) w l
  have hobj : (getObj b).run Try.prog w = .ok (.map es ck) w := MapKept.run_getObj_map h1
  have turn : ∀ o, Turn b w { w with heap := w.heap.setIfInBounds b o } := fun o => ⟨rfl, rfl, rfl, by simp, fun k hk => by simp [Ne.symm hk]⟩
  cases hf : findC (x, y) l 0 with
  | none =>
    refine ⟨{ w with heap := w.heap.setIfInBounds b (.map (es.push { key := C x y, val := v, born := ck }) (ck + 1)) }, ?_, ⟨es.push { key := C x y, val := v, born := ck }, ck + 1, l ++ [((x, y), v, ck)], by simp [hlt], by simp [h2, ent], fun d => ?_, h4.push v (findC_none hf)⟩, turn _⟩
    · unfold Instr.mapUpdate
      rw [Sem.run_bind, run_underlying hT, Result.andThen_ok]
      simp only
      rw [Sem.run_bind, hobj, Result.andThen_ok]
      simp only
      rw [Sem.run_bind, run_checkC, Result.andThen_ok, Sem.run_bind, h2, hfind, hf, Result.andThen_ok]
      rw [MapKept.run_setObj_map _ h1]
    · rw [findC_push _ _ _ _ _ _ hf, h3]; rfl
  | some p =>
    obtain ⟨i, u⟩ := p
    obtain ⟨m1, e, m2, m3⟩ := setC_modify (x, y) v (fun e => { e with key := C x y, val := v }) (fun e he => by unfold ent; rw [he]) l i u hf
    refine ⟨{ w with heap := w.heap.setIfInBounds b (.map (es.modify i fun e => { e with key := C x y, val := v }) ck) }, ?_, ⟨es.modify i fun e => { e with key := C x y, val := v }, ck, setC (x, y) v l, by simp [hlt], by rw [Array.toList_modify, h2, m1], fun d => ?_, h4.set _ _⟩, turn _⟩
    · unfold Instr.mapUpdate
      rw [Sem.run_bind, run_underlying hT, Result.andThen_ok]
      simp only
      rw [Sem.run_bind, hobj, Result.andThen_ok]
      simp only
      rw [Sem.run_bind, run_checkC, Result.andThen_ok, Sem.run_bind, h2, hfind, hf, Result.andThen_ok]
      simp only
      have hk : ((es[i]?).map (·.key)).getD (C x y) = C x y := by rw [← Array.getElem?_toList, h2, m2, Option.map_some, m3]; rfl
      rw [Sem.run_bind, hk, run_staysC, Result.andThen_ok]
      rw [MapKept.run_setObj_map _ h1]
    · rw [findC_setC _ _ _ _ _ (by rw [hf]; rfl), h3]; rfl
theorem FMap.look {w : World} {b : Nat} {f : Int × Int → Option Value} (h : FMap w b f) (T E : TypeId) (hT : Try.prog.underlying T = some (.map 32 E)) (z : Value) (hz : (zeroValue E).run Try.prog w = .ok z w) (x y : Int) (ok : Bool) :
    (Instr.lookup T (.map (some b)) (C x y) ok).run Try.prog w = .ok (if ok then .tuple #[(f (x, y)).getD z, .bool (f (x, y)).isSome] else (f (x, y)).getD z) w := by
  obtain ⟨es, ck, l, h1, h2, h3, h4⟩ := h
  have hfind := run_findC (x, y) w l
  have hobj : (getObj b).run Try.prog w = .ok (.map es ck) w := MapKept.run_getObj_map h1
  unfold Instr.lookup
  rw [Sem.run_bind, run_underlying hT, Result.andThen_ok]
  simp only
  rw [Sem.run_bind, hobj, Result.andThen_ok]
  simp only [Sem.run_pure, Result.andThen_ok, Sem.run_bind]
  rw [run_checkC, Result.andThen_ok, h2, hfind, Result.andThen_ok, ← h3]
  cases hf : findC (x, y) l 0 with
  | none => simp [hz]
  | some p => simp
theorem FMap.look1 {w : World} {b : Nat} {f : Int × Int → Option Value} (h : FMap w b f) (T E : TypeId) (hT : Try.prog.underlying T = some (.map 32 E)) (z : Value) (hz : (zeroValue E).run Try.prog w = .ok z w) (x y : Int) :
    (Instr.lookup T (.map (some b)) (.agg #[.int .i64 x, .int .i64 y]) false).run Try.prog w = .ok ((f (x, y)).getD z) w := by
  have h1 := h.look T E hT z hz x y false
  rw [if_neg Bool.false_ne_true] at h1
  exact h1
/-- The law at a look-up that asks whether the key is there. -/
theorem wpL_look2 {ops : Array Oper} {rest : List Oper} {Q : Exit → Act → World → Prop} {a : Act} {w : World} {dd : Option Tmp} {m k : Operand} {tt : TypeId} {pos : String} {af : Array Edge} {T : TypeId} (E : TypeId) (hT : Try.prog.underlying T = some (.map 32 E)) (z : Value) (hz : ∀ w, (zeroValue E).run Try.prog w = .ok z w) (b : Nat) (f : Int × Int → Option Value) (x y : Int)
    (hm : a.eval m = .map (some b)) (hk : a.eval k = .agg #[.int .i64 x, .int .i64 y]) (hf : FMap w b f)
    (h : wpList Try.prog ops Q rest (a.put dd (.tuple #[(f (x, y)).getD z, .bool (f (x, y)).isSome])) w) :
    wpList Try.prog ops Q ({ dst := dd, op := .lookup T m k true, type := tt, pos := pos, after := af, guard := .none } :: rest) a w := by
  refine wpList_plain rfl fun K hK => ?_
  unfold Oper.wp execOp
  have hl := hf.look T E hT z (hz w) x y true
  unfold C at hl
  simp only [hm, hk, Sem.run_bind, hl, Result.andThen_ok, Sem.run_pure]
  exact hK _ _ h
theorem wpL_look1 {ops : Array Oper} {rest : List Oper} {Q : Exit → Act → World → Prop} {a : Act} {w : World} {dd : Option Tmp} {m k : Operand} {tt : TypeId} {pos : String} {af : Array Edge} {T : TypeId} (E : TypeId) (hT : Try.prog.underlying T = some (.map 32 E)) (z : Value) (hz : ∀ w, (zeroValue E).run Try.prog w = .ok z w) (b : Nat) (f : Int × Int → Option Value) (x y : Int)
    (hm : a.eval m = .map (some b)) (hk : a.eval k = .agg #[.int .i64 x, .int .i64 y]) (hf : FMap w b f)
    (h : wpList Try.prog ops Q rest (a.put dd ((f (x, y)).getD z)) w) :
    wpList Try.prog ops Q ({ dst := dd, op := .lookup T m k false, type := tt, pos := pos, after := af, guard := .none } :: rest) a w := by
  refine wpList_plain rfl fun K hK => ?_
  unfold Oper.wp execOp
  have hl := hf.look T E hT z (hz w) x y false
  unfold C at hl
  simp only [hm, hk, Sem.run_bind, hl, Result.andThen_ok, Sem.run_pure]
  exact hK _ _ h
theorem wpL_upd {ops : Array Oper} {rest : List Oper} {Q : Exit → Act → World → Prop} {a : Act} {w : World} {dd : Option Tmp} {m k u : Operand} {tt : TypeId} {pos : String} {af : Array Edge} {T : TypeId} (E : TypeId) (hT : Try.prog.underlying T = some (.map 32 E)) (b : Nat) (f : Int × Int → Option Value) (x y : Int) (v : Value)
    (hm : a.eval m = .map (some b)) (hk : a.eval k = .agg #[.int .i64 x, .int .i64 y]) (hu : a.eval u = v) (hf : FMap w b f)
    (h : ∀ w', FMap w' b (putF f (x, y) v) → Turn b w w' → wpList Try.prog ops Q rest (a.put dd undef) w') :
    wpList Try.prog ops Q ({ dst := dd, op := .mapUpdate T m k u, type := tt, pos := pos, after := af, guard := .none } :: rest) a w := by
  refine wpList_plain rfl fun K hK => ?_
  unfold Oper.wp execOp
  obtain ⟨w', hr, h1, h2⟩ := hf.update T E hT x y v
  unfold C at hr
  simp only [hm, hk, hu, Sem.run_bind, hr, Result.andThen_ok, Sem.run_pure]
  exact hK _ _ (h w' h1 h2)
theorem wpL_ins {ops : Array Oper} {rest : List Oper} {Q : Exit → Act → World → Prop} {a : Act} {w : World} {dd : Option Tmp} {m k u : Operand} {tt : TypeId} {pos : String} {af : Array Edge} {T : TypeId} (E : TypeId) (hT : Try.prog.underlying T = some (.map 32 E)) (b : Nat) (f : Int × Int → Option Value) (x y : Int) (v : Value)
    (hm : a.eval m = .map (some b)) (hk : a.eval k = .agg #[.int .i64 x, .int .i64 y]) (hu : a.eval u = v) (hf : FMap w b f)
    (h : ∀ w', FMap w' b (putF f (x, y) v) → Turn b w w' → wpList Try.prog ops Q rest (a.put dd undef) w') :
    wpList Try.prog ops Q ({ dst := dd, op := .insert T m k u, type := tt, pos := pos, after := af, guard := .none } :: rest) a w := by
  refine wpList_plain rfl fun K hK => ?_
  unfold Oper.wp execOp
  obtain ⟨w', hr, h1, h2⟩ := hf.update T E hT x y v
  unfold C at hr
  simp only [hm, hk, hu, Sem.run_bind, hr, Result.andThen_ok, Sem.run_pure]
  exact hK _ _ (h w' h1 h2)
/-- What is left when a key is taken out. -/
def dropF (f : Int × Int → Option Value) (c : Int × Int) : Int × Int → Option Value := fun d => if d = c then none else f d
theorem FMap.delete {w : World} {b : Nat} {f : Int × Int → Option Value} (h : FMap w b f) (T E ty : TypeId) (hT : Try.prog.underlying T = some (.map 32 E)) (x y : Int) :
    ∃ w', (Builtin.delete_ #[T, 32] ty #[.map (some b), C x y]).run Try.prog w = .ok (.tuple #[]) w' ∧ FMap w' b (dropF f (x, y)) ∧ Turn b w w' := by
  obtain ⟨es, ck, l, h1, h2, h3, h4⟩ := h
  have hlt := (Array.getElem?_eq_some_iff.1 h1).1
  have hfind := run_findC (x, y) w l
  have turn : ∀ o, Turn b w { w with heap := w.heap.setIfInBounds b o } := fun o => ⟨rfl, rfl, rfl, by simp, fun k hk => by simp [Ne.symm hk]⟩
  cases hf : findC (x, y) l 0 with
  | none =>
    refine ⟨{ w with heap := w.heap.setIfInBounds b (.map es ck) }, ?_, ⟨es, ck, l, by simp [hlt], h2, fun d => ?_, h4⟩, turn _⟩
    · rw [hf] at hfind
      simp [Builtin.delete_, run_underlying hT, MapKept.run_getObj_map h1, run_checkC, h2, hfind, MapKept.run_setObj_map _ h1, Result.andThen, Sem.run_bind]
    · unfold dropF
      by_cases hd : d = (x, y)
      · rw [if_pos hd, hd, hf]; rfl
      · rw [if_neg hd, h3]
  | some p =>
    obtain ⟨i, u⟩ := p
    obtain ⟨m1, m2⟩ := delC_erase (x, y) l i u hf
    have hsz : i < es.size := by
      rw [← Array.length_toList, h2, List.length_map]; exact m2
    have hsub : (es.eraseIdxIfInBounds i).toList = es.toList.eraseIdx i := by
      unfold Array.eraseIdxIfInBounds
      rw [dif_pos hsz]
      simp
    refine ⟨{ w with heap := w.heap.setIfInBounds b (.map (es.eraseIdxIfInBounds i) ck) }, ?_, ⟨es.eraseIdxIfInBounds i, ck, delC (x, y) l, by simp [hlt], by rw [hsub, h2, m1], fun d => ?_, h4.del _⟩, turn _⟩
    · rw [hf] at hfind
      simp [Builtin.delete_, run_underlying hT, MapKept.run_getObj_map h1, run_checkC, h2, hfind, MapKept.run_setObj_map _ h1, Result.andThen, Sem.run_bind]
    · rw [findC_delC _ _ _ h4.keys]
      unfold dropF
      rw [h3]
theorem wpL_del {ops : Array Oper} {rest : List Oper} {Q : Exit → Act → World → Prop} {a : Act} {w : World} {dd : Option Tmp} {m k : Operand} {tt : TypeId} {pos : String} {af : Array Edge} {T : TypeId} (E : TypeId) (hT : Try.prog.underlying T = some (.map 32 E)) (b : Nat) (f : Int × Int → Option Value) (x y : Int)
    (hm : a.eval m = .map (some b)) (hk : a.eval k = .agg #[.int .i64 x, .int .i64 y]) (hf : FMap w b f)
    (h : ∀ w', FMap w' b (dropF f (x, y)) → Turn b w w' → wpList Try.prog ops Q rest (a.put dd (.tuple #[])) w') :
    wpList Try.prog ops Q ({ dst := dd, op := Op.call { callee := Callee.builtin Builtin.delete, args := #[m, k], argTypes := #[T, 32] }, type := tt, pos := pos, after := af, guard := .none } :: rest) a w := by
  refine wpList_plain rfl fun K hK => ?_
  unfold Oper.wp
  obtain ⟨w', hr, h1, h2⟩ := hf.delete T E tt hT x y
  unfold C at hr
  simp [execOp, resolve, invoke, builtin, hm, hk, hr, Result.andThen]
  exact hK _ _ (h w' h1 h2)
/-- A loop over the map in block b is under way, its iterator lies in block r; left: is this key still to come? -/
def FIter (w : World) (b r : Nat) (f : Int × Int → Option Value) (left : Int × Int → Bool) : Prop := ∃ es ck l since seen c0, w.heap[b]? = some (.map es ck) ∧ es.toList = l.map ent ∧ (∀ c, (findC c l 0).map (·.2) = f c) ∧ Fine l ck ∧
  w.heap[r]? = some (.mapIter (some b) since seen c0) ∧ (∀ e ∈ l, e.2.2 < since) ∧ since ≤ c0 ∧ since ≤ ck ∧ ∀ c, left c = l.any fun e => c == e.1 && !seen.contains e.2.2
theorem FIter.map {w : World} {b r : Nat} {f : Int × Int → Option Value} {left : Int × Int → Bool} (h : FIter w b r f left) : FMap w b f := by
  obtain ⟨es, ck, l, since, seen, c0, h1, h2, h3, h4, _⟩ := h
  exact ⟨es, ck, l, h1, h2, h3, h4⟩
theorem FIter.keep {w w' : World} {b r : Nat} {f : Int × Int → Option Value} {left : Int × Int → Bool} (h : FIter w b r f left) (hb : w'.heap[b]? = w.heap[b]?) (hr : w'.heap[r]? = w.heap[r]?) : FIter w' b r f left := by
  obtain ⟨es, ck, l, since, seen, c0, h1, h2, h3, h4, h5, h6⟩ := h
  exact ⟨es, ck, l, since, seen, c0, hb.trans h1, h2, h3, h4, hr.trans h5, h6⟩
theorem FIter.lt {w : World} {b r : Nat} {f : Int × Int → Option Value} {left : Int × Int → Bool} (h : FIter w b r f left) : b < w.heap.size ∧ r < w.heap.size ∧ b ≠ r := by
  obtain ⟨es, ck, l, since, seen, c0, h1, h2, h3, h4, h5, h6⟩ := h
  refine ⟨(Array.getElem?_eq_some_iff.1 h1).1, (Array.getElem?_eq_some_iff.1 h5).1, fun he => ?_⟩
  rw [he, h5] at h1
  cases h1
theorem FIter.below {w w' : World} {b r B : Nat} {f : Int × Int → Option Value} {left : Int × Int → Bool} (h : FIter w b r f left) (hb : Below B w w') (hB : b < B) (hr : r < B) : FIter w' b r f left := h.keep (hb.block b hB) (hb.block r hr)
/-- How many are still to come hangs on the two blocks alone. -/
theorem rangeLeft_keep {w w' : World} {b r : Nat} (hb : w'.heap[b]? = w.heap[b]?) (hr : w'.heap[r]? = w.heap[r]?) : w'.rangeLeft b r = w.rangeLeft b r := by
  unfold World.rangeLeft
  rw [hb, hr]
theorem FMap.range {w : World} {b : Nat} {f : Int × Int → Option Value} (h : FMap w b f) (T E : TypeId) (hT : Try.prog.underlying T = some (.map 32 E)) :
    ∃ w', (Instr.range T (.map (some b))).run Try.prog w = .ok (.pointer (some ⟨w.heap.size, 0, none⟩)) w' ∧ FIter w' b w.heap.size f (fun c => (f c).isSome) ∧ Below w.heap.size w w' ∧ w'.heap.size = w.heap.size + 1 := by
  have hlt := h.lt
  obtain ⟨es, ck, l, h1, h2, h3, h4⟩ := h
  refine ⟨_, run_range_map w T 32 E b es ck hT h1, ⟨es, ck, l, ck, #[], ck, ?_, h2, h3, h4, heap_alloc_new _ _, h4.past, Nat.le_refl _, Nat.le_refl _, fun c => ?_⟩, (Below.refl _ _).alloc (Nat.le_refl _) _, by simp⟩
  · have := ((Below.refl w.heap.size w).alloc (Nat.le_refl _) (.mapIter (some b) ck #[] ck)).block b hlt
    rw [this]; exact h1
  · rw [Bool.eq_iff_iff, List.any_eq_true]
    constructor
    · intro hs
      replace hs : (f c).isSome = true := hs
      rw [← h3 c] at hs
      cases hf : findC c l 0 with
      | none => rw [hf] at hs; cases hs
      | some p =>
        have : c ∈ l.map (·.1) := by
          refine Classical.byContradiction fun hn => ?_
          rw [findC_not hn] at hf; cases hf
        obtain ⟨e, he, rfl⟩ := List.mem_map.1 this
        exact ⟨e, he, by simp⟩
    · rintro ⟨e, he, h⟩
      have hce : c = e.1 := by simpa using h
      have := findC_mem (i := 0) h4.keys e he
      show (f c).isSome = true
      rw [hce, ← h3 e.1, this]; rfl
theorem nodup_eq {l : List ((Int × Int) × Value × Nat)} {α : Type} {g : ((Int × Int) × Value × Nat) → α} : (l.map g).Nodup → ∀ {x y}, x ∈ l → y ∈ l → g x = g y → x = y := by
  induction l with
  | nil => intro _ x y hx; cases hx
  | cons e es ih =>
    intro hn x y hx hy hg
    rw [List.map_cons, List.nodup_cons] at hn
    rcases List.mem_cons.1 hx with e1 | hx <;> rcases List.mem_cons.1 hy with e2 | hy
    · rw [e1, e2]
    · rw [e1] at hg; exact absurd (List.mem_map.2 ⟨y, hy, hg.symm⟩) hn.1
    · rw [e2] at hg; exact absurd (List.mem_map.2 ⟨x, hx, hg⟩) hn.1
    · exact ih hn.2 hx hy hg
theorem FIter.next {w : World} {b r : Nat} {f : Int × Int → Option Value} {left : Int × Int → Bool} (h : FIter w b r f left) (ty : TypeId) :
    ((∀ c, left c = false) ∧ (Instr.next (.pointer (some ⟨r, 0, none⟩)) false ty).run Try.prog w = .ok (.tuple #[.bool false]) w) ∨
    ∃ c v w', left c = true ∧ f c = some v ∧ (Instr.next (.pointer (some ⟨r, 0, none⟩)) false ty).run Try.prog w = .ok (.tuple #[.bool true, C c.1 c.2, v]) w' ∧
      FIter w' b r f (fun x => left x && !(x == c)) ∧ w'.rangeLeft b r < w.rangeLeft b r ∧ Turn r w w' ∧ (Instr.entry (.pointer (some ⟨r, 0, none⟩))).run Try.prog w' = .ok (.tuple #[C c.1 c.2, v]) w' := by
  have hlt := h.lt
  obtain ⟨es, ck, l, since, seen, c0, h1, h2, h3, h4, h5, h6, h7, h8, h9⟩ := h
  have hmem : ∀ x, x ∈ es.toList ↔ ∃ e ∈ l, ent e = x := fun x => by rw [h2, List.mem_map]
  have hold : ∀ x ∈ es.toList, x.born < since := fun x hx => by
    obtain ⟨e, he, rfl⟩ := (hmem x).1 hx
    exact h6 e he
  rcases run_next_at (P := Try.prog) w ty r b since c0 seen es ck h5 h1 hold h7 with ⟨h0, hrun⟩ | ⟨x, hx, w1, hal, hrun⟩
  · refine Or.inl ⟨fun c => ?_, hrun⟩
    rw [h9 c, List.any_eq_false]
    intro e he
    have := all_seen es seen h0 (ent e) ((hmem _).2 ⟨e, he, rfl⟩)
    rw [show (ent e).born = e.2.2 from rfl] at this
    rw [this]; simp
  · obtain ⟨hem, hes⟩ := mem_left hx
    obtain ⟨e, he, rfl⟩ := (hmem x).1 hem
    rw [show (ent e).born = e.2.2 from rfl] at hes
    have hr1 : w1.heap[r]? = some (.mapIter (some b) since seen c0) := by rcases hal with rfl | rfl <;> exact h5
    have hb1 : w1.heap[b]? = some (.map es ck) := by rcases hal with rfl | rfl <;> exact h1
    have hset := MapKept.heap_set (o' := .mapIter (some b) since (seen.push (ent e).born) ck) hr1
    have hb' : (ChangeMaps.setBlock w1 r (.mapIter (some b) since (seen.push (ent e).born) ck)).heap[b]? = some (.map es ck) := (hset.2 b hlt.2.2).trans hb1
    have hfe := findC_mem (i := 0) h4.keys e he
    rw [h3] at hfe
    refine Or.inr ⟨e.1, e.2.1, _, ?_, hfe, hrun, ⟨es, ck, l, since, seen.push e.2.2, ck, hb', h2, h3, h4, hset.1, h6, h8, h8, fun c => ?_⟩, ?_, ?_, ?_⟩
    · rw [h9 e.1, List.any_eq_true]
      exact ⟨e, he, by rw [hes]; simp⟩
    · show (left c && !(c == e.1)) = _
      rw [h9 c, Bool.eq_iff_iff, Bool.and_eq_true, List.any_eq_true, List.any_eq_true]
      constructor
      · rintro ⟨⟨y, hy, hyc⟩, hne⟩
        refine ⟨y, hy, ?_⟩
        simp only [Bool.and_eq_true, beq_iff_eq, Bool.not_eq_true', beq_eq_false_iff_ne] at hyc hne ⊢
        refine ⟨hyc.1, ?_⟩
        rw [contains_push, hyc.2, Bool.false_or, beq_eq_false_iff_ne]
        intro hb
        exact hne (by rw [hyc.1, nodup_eq h4.born hy he hb])
      · rintro ⟨y, hy, hyc⟩
        simp only [Bool.and_eq_true, beq_iff_eq, Bool.not_eq_true'] at hyc
        rw [contains_push, Bool.or_eq_false_iff] at hyc
        refine ⟨⟨y, hy, by rw [hyc.1, hyc.2.1]; simp⟩, ?_⟩
        simp only [Bool.not_eq_true', beq_eq_false_iff_ne]
        intro hce
        have := nodup_eq h4.keys hy he (by rw [← hyc.1]; exact hce)
        rw [this] at hyc
        simp at hyc
    · have e1 : (ChangeMaps.setBlock w1 r (.mapIter (some b) since (seen.push (ent e).born) ck)).rangeLeft b r = (leftOf es (seen.push (ent e).born)).size := by
        unfold World.rangeLeft
        rw [hb', show (ChangeMaps.setBlock w1 r (.mapIter (some b) since (seen.push (ent e).born) ck)).heap[r]? = _ from hset.1]
      have e2 : w.rangeLeft b r = (leftOf es seen).size := by
        unfold World.rangeLeft
        rw [h1, h5]
      rw [e1, e2]
      exact left_shrinks es seen _ hx
    · rcases hal with rfl | rfl <;> exact ⟨rfl, rfl, rfl, by simp [ChangeMaps.setBlock], fun i hi => hset.2 i hi⟩
    · refine run_entry_at _ r b since seen es ck (ent e) hset.1 hb' hem ?_
      rw [h2, List.map_map]
      exact h4.born
/-- 'range m', at the operation. -/
theorem wpL_range {ops : Array Oper} {rest : List Oper} {Q : Exit → Act → World → Prop} {a : Act} {w : World} {dd : Option Tmp} {m : Operand} {tt : TypeId} {pos : String} {af : Array Edge} {T : TypeId} (E : TypeId) (hT : Try.prog.underlying T = some (.map 32 E)) (b : Nat) (f : Int × Int → Option Value)
    (hm : a.eval m = .map (some b)) (hf : FMap w b f)
    (h : ∀ w', FIter w' b w.heap.size f (fun c => (f c).isSome) → Below w.heap.size w w' → w'.heap.size = w.heap.size + 1 → wpList Try.prog ops Q rest (a.put dd (.pointer (some ⟨w.heap.size, 0, none⟩))) w') :
    wpList Try.prog ops Q ({ dst := dd, op := .range T m, type := tt, pos := pos, after := af, guard := .none } :: rest) a w := by
  refine wpList_plain rfl fun K hK => ?_
  unfold Oper.wp
  obtain ⟨w', hr, h1, h2, h3⟩ := hf.range T E hT
  simp [execOp, hm, hr, Result.andThen]
  exact hK _ _ (h w' h1 h2 h3)
/-- The step of a loop over a map, at the operation: two ways. -/
theorem wpL_next {ops : Array Oper} {rest : List Oper} {Q : Exit → Act → World → Prop} {a : Act} {w : World} {dd : Option Tmp} {it : Operand} {tt : TypeId} {pos : String} {af : Array Edge} (b r : Nat) (f : Int × Int → Option Value) (left : Int × Int → Bool)
    (hit : a.eval it = .pointer (some ⟨r, 0, none⟩)) (h : FIter w b r f left)
    (hDone : (∀ c, left c = false) → wpList Try.prog ops Q rest (a.put dd (.tuple #[.bool false])) w)
    (hMore : ∀ (x y : Int) (v : Value) (w' : World), left (x, y) = true → f (x, y) = some v → FIter w' b r f (fun z => left z && !(z == (x, y))) → w'.rangeLeft b r < w.rangeLeft b r → Turn r w w' →
      (Instr.entry (.pointer (some ⟨r, 0, none⟩))).run Try.prog w' = .ok (.tuple #[.agg #[.int .i64 x, .int .i64 y], v]) w' → wpList Try.prog ops Q rest (a.put dd (.tuple #[.bool true, .agg #[.int .i64 x, .int .i64 y], v])) w') :
    wpList Try.prog ops Q ({ dst := dd, op := .next it false, type := tt, pos := pos, after := af, guard := .none } :: rest) a w := by
  refine wpList_plain rfl fun K hK => ?_
  unfold Oper.wp
  rcases h.next tt with ⟨hl, hrun⟩ | ⟨c, v, w', h1, h2, hrun, h3, h4, h5, h6⟩
  · simp [execOp, hit, hrun, Result.andThen]
    exact hK _ _ (hDone hl)
  · unfold C at hrun h6
    simp [execOp, hit, hrun, Result.andThen]
    exact hK _ _ (hMore c.1 c.2 v w' h1 h2 h3 h4 h5 h6)
end Go.Proofs.Ytnilgnnlobiojaa
