/- Maps whose keys are cells, that a call makes: what they hold, key by key. -/
import Derived.Test.YtemcbonmlmobkaaOwnC
import Derived.Maps.OwnOps
namespace Go.Proofs.Ytemcbonmlmobkaa
open Go.RowKit
/-- An entry of a map keyed by cells. -/
def ent (p : (Int × Int) × Value × Nat) : MapEntry := { key := C p.1.1 p.1.2, val := p.2.1, born := p.2.2 }
/-- Where a key stands. -/
def findC (c : Int × Int) : List ((Int × Int) × Value × Nat) → Nat → Option (Nat × Value)
  | [], _ => none
  | e :: es, i => if c = e.1 then some (i, e.2.1) else findC c es (i + 1)
theorem run_eqIn (n : Nat) (a b c d : Int) (w : World) : (Op.equalIn (n + 2) 27 (C a b) (C c d)).run Try.prog w = .ok (a == c && b == d) w := by
  unfold C
  rw [run_equalIn_agg w (n + 1) 27 _ _ (by kernel_rfl) (by kernel_rfl)]
  cases h : (a == c) <;> cases h2 : (b == d) <;> simp at h2 <;> simp [h, h2, go_sem]
theorem run_eqC (a b c d : Int) (w : World) : (Op.equal 27 (C a b) (C c d)).run Try.prog w = .ok (a == c && b == d) w := run_eqIn 9998 a b c d w
theorem run_checkIn (n : Nat) (e : Bool) (a b : Int) (w : World) : (Instr.checkKey e (n + 2) 27 (C a b)).run Try.prog w = .ok () w := by
  have h3 : ∀ k v w, (Instr.checkKey e (k + 1) 3 (.int .i64 v)).run Try.prog w = .ok () w := fun k v w => by
    rw [Instr.checkKey, Sem.run_bind, run_underlying Try.underlying3]; rfl
  unfold C
  rw [Instr.checkKey, Sem.run_bind, run_underlying Try.underlying27]
  simp [h3, go_sem]
theorem run_checkC (e : Bool) (a b : Int) (w : World) : (Instr.checkKey e 10000 27 (C a b)).run Try.prog w = .ok () w := run_checkIn 9998 e a b w
theorem run_staysC (a b : Int) (w : World) : (Instr.keyThatStays (C a b) (C a b)).run Try.prog w = .ok (C a b) w := by
  have : Instr.sameBits 10000 (C a b) (C a b) = true := by simp [C, Instr.sameBits]
  unfold Instr.keyThatStays
  rw [if_pos this]; rfl
theorem run_findAskC (c : Int × Int) (w : World) : ∀ (l : List ((Int × Int) × Value × Nat)) (i : Nat), (Instr.findAsking 27 (C c.1 c.2) (l.map ent) i).run Try.prog w = .ok (findC c l i) w
  | [], i => rfl
  | e :: es, i => by
    rw [List.map_cons, Instr.findAsking, Sem.run_bind, show (ent e).key = C e.1.1 e.1.2 from rfl, run_eqC]
    simp only [Result.andThen_ok, findC]
    by_cases h : c = e.1
    · rw [if_pos h]
      subst h
      simp [ent]
    · rw [if_neg h]
      have : (c.1 == e.1.1 && c.2 == e.1.2) = false := by
        rw [Bool.and_eq_false_iff]
        rcases c with ⟨c1, c2⟩
        rcases e with ⟨⟨e1, e2⟩, _⟩
        simp at h ⊢
        by_cases h1 : c1 = e1
        · exact Or.inr (h h1)
        · exact Or.inl h1
      rw [this]
      simp only [Bool.false_eq_true, if_false]
      exact run_findAskC c w es (i + 1)
theorem run_findC (c : Int × Int) (w : World) (l : List ((Int × Int) × Value × Nat)) : (Instr.findKey 27 (C c.1 c.2) (l.map ent)).run Try.prog w = .ok (findC c l 0) w := by
  unfold Instr.findKey
  rw [Sem.run_bind, run_underlying Try.underlying27, Result.andThen_ok]
  cases l with
  | nil => rfl
  | cons e es =>
    have : ∀ k, Instr.findNow (TypeDesc.struct k) (C c.1 c.2) ((e :: es).map ent) 0 = none := fun k => by simp [Instr.findNow, Instr.sameNow]
    rw [this]
    exact run_findAskC c w (e :: es) 0
/-- Block b is a map keyed by cells that holds f. -/
def FMap (w : World) (b : Nat) (f : Int × Int → Option Value) : Prop := ∃ es ck l, w.heap[b]? = some (.map es ck) ∧ es.toList = l.map ent ∧ ∀ c, (findC c l 0).map (·.2) = f c
theorem FMap.keep {w w' : World} {b : Nat} {f : Int × Int → Option Value} (h : FMap w b f) (hb : w'.heap[b]? = w.heap[b]?) : FMap w' b f := by
  obtain ⟨es, ck, l, h1, h2⟩ := h
  exact ⟨es, ck, l, hb.trans h1, h2⟩
theorem FMap.lt {w : World} {b : Nat} {f : Int × Int → Option Value} (h : FMap w b f) : b < w.heap.size := by
  obtain ⟨es, ck, l, h1, h2⟩ := h
  exact (Array.getElem?_eq_some_iff.1 h1).1
theorem FMap.below {w w' : World} {b B : Nat} {f : Int × Int → Option Value} (h : FMap w b f) (hb : Below B w w') (hB : b < B) : FMap w' b f := h.keep (hb.block b hB)
theorem FMap.new (w : World) : FMap (w.alloc (.map #[] 0)) w.heap.size (fun _ => none) := ⟨#[], 0, [], by unfold World.alloc; simp, rfl, fun _ => rfl⟩
theorem findC_shift (c : Int × Int) : ∀ (l : List ((Int × Int) × Value × Nat)) (i j : Nat), (findC c l (i + j)) = (findC c l i).map (fun p => (p.1 + j, p.2))
  | [], _, _ => rfl
  | e :: es, i, j => by
    unfold findC
    by_cases h : c = e.1
    · rw [if_pos h, if_pos h]; rfl
    · rw [if_neg h, if_neg h, show i + j + 1 = (i + 1) + j by omega, findC_shift c es (i + 1) j]
/-- A value is laid at a key that is there. -/
def setC (c : Int × Int) (v : Value) : List ((Int × Int) × Value × Nat) → List ((Int × Int) × Value × Nat)
  | [] => []
  | e :: es => if c = e.1 then (e.1, v, e.2.2) :: es else e :: setC c v es
theorem setC_modify (c : Int × Int) (v : Value) (g : MapEntry → MapEntry) (hg : ∀ e : (Int × Int) × Value × Nat, e.1 = c → g (ent e) = ent (e.1, v, e.2.2)) : ∀ (l : List ((Int × Int) × Value × Nat)) (i : Nat) (u : Value), findC c l 0 = some (i, u) →
    (l.map ent).modify i g = (setC c v l).map ent ∧ ∃ e, (l.map ent)[i]? = some e ∧ e.key = C c.1 c.2
  | [], _, _, h => by cases h
  | e :: es, i, u, h => by
    unfold findC at h
    unfold setC
    by_cases hc : c = e.1
    · rw [if_pos hc] at h ⊢
      cases h
      refine ⟨?_, ent e, rfl, by rw [hc]; rfl⟩
      rw [List.map_cons, List.modify_zero_cons, hg e hc.symm]; rfl
    · rw [if_neg hc] at h ⊢
      rw [findC_shift c es 0 1] at h
      cases hf : findC c es 0 with
      | none => rw [hf] at h; cases h
      | some p =>
        rw [hf] at h
        cases h
        obtain ⟨h1, h2⟩ := setC_modify c v g hg es p.1 p.2 hf
        exact ⟨by rw [List.map_cons, List.modify_succ_cons, h1]; rfl, h2⟩
theorem findC_setC (c : Int × Int) (v : Value) (d : Int × Int) : ∀ (l : List ((Int × Int) × Value × Nat)) (i : Nat), (findC c l i).isSome → (findC d (setC c v l) i).map (·.2) = if d = c then some v else (findC d l i).map (·.2)
  | [], i, h => by cases h
  | e :: es, i, h => by
    unfold findC at h
    unfold setC
    by_cases hc : c = e.1
    · rw [if_pos hc]
      unfold findC
      simp only
      subst hc
      by_cases hd : d = e.1
      · rw [if_pos hd, if_pos hd]; rfl
      · rw [if_neg hd, if_neg hd, if_neg hd]
    · rw [if_neg hc] at h ⊢
      unfold findC
      by_cases hd : d = e.1
      · rw [if_pos hd, if_pos hd, if_neg (by rw [hd]; exact fun h => hc h.symm)]
      · rw [if_neg hd, if_neg hd]
        exact findC_setC c v d es (i + 1) h
theorem findC_push (c : Int × Int) (v : Value) (ck : Nat) (d : Int × Int) : ∀ (l : List ((Int × Int) × Value × Nat)) (i : Nat), findC c l i = none → (findC d (l ++ [(c, v, ck)]) i).map (·.2) = if d = c then some v else (findC d l i).map (·.2)
  | [], i, _ => by
    show (findC d [(c, v, ck)] i).map (·.2) = if d = c then some v else none
    unfold findC
    by_cases hd : d = c
    · rw [if_pos hd, if_pos hd]; rfl
    · rw [if_neg hd, if_neg hd]; rfl
  | e :: es, i, h => by
    unfold findC at h
    by_cases hc : c = e.1
    · rw [if_pos hc] at h; cases h
    · rw [if_neg hc] at h
      rw [List.cons_append]
      unfold findC
      by_cases hd : d = e.1
      · rw [if_pos hd, if_pos hd, if_neg (by rw [hd]; exact fun h => hc h.symm)]
      · rw [if_neg hd, if_neg hd]
        exact findC_push c v ck d es (i + 1) h
/-- What is laid at a key of a map. -/
def putF (f : Int × Int → Option Value) (c : Int × Int) (v : Value) : Int × Int → Option Value := fun d => if d = c then some v else f d
/-- Only block b has turned, and it is as big. -/
structure Turn (b : Nat) (w w' : World) : Prop where
  os : w'.os = w.os
  tape : w'.tape = w.tape
  output : w'.output = w.output
  size : w'.heap.size = w.heap.size
  block : ∀ k, k ≠ b → w'.heap[k]? = w.heap[k]?
theorem Turn.below {b B : Nat} {w w' : World} (h : Turn b w w') (hB : B ≤ b) : Below B w w' := ⟨h.os, h.tape, h.output, by rw [h.size]; exact Nat.le_refl _, fun k hk => h.block k (by omega)⟩
theorem Turn.undrew {b : Nat} {w w' : World} (h : Turn b w.drew w') : Turn b w w' := ⟨h.os, h.tape, h.output, h.size, h.block⟩
theorem FMap.update {w : World} {b : Nat} {f : Int × Int → Option Value} (h : FMap w b f) (T E : TypeId) (hT : Try.prog.underlying T = some (.map 27 E)) (x y : Int) (v : Value) :
    ∃ w', (Instr.mapUpdate T (.map (some b)) (C x y) v).run Try.prog w = .ok () w' ∧ FMap w' b (putF f (x, y) v) ∧ Turn b w w' := by
  obtain ⟨es, ck, l, h1, h2, h3⟩ := h
  have hlt := (Array.getElem?_eq_some_iff.1 h1).1
  have hfind := run_findC (x, y) w l
  have hobj : (getObj b).run Try.prog w = .ok (.map es ck) w := MapKept.run_getObj_map h1
  have turn : ∀ o, Turn b w { w with heap := w.heap.setIfInBounds b o } := fun o => ⟨rfl, rfl, rfl, by simp, fun k hk => by simp [Ne.symm hk]⟩
  cases hf : findC (x, y) l 0 with
  | none =>
    refine ⟨{ w with heap := w.heap.setIfInBounds b (.map (es.push { key := C x y, val := v, born := ck }) (ck + 1)) }, ?_, ⟨es.push { key := C x y, val := v, born := ck }, ck + 1, l ++ [((x, y), v, ck)], by simp [hlt], by simp [h2, ent], fun d => ?_⟩, turn _⟩
    · unfold Instr.mapUpdate
      rw [Sem.run_bind, run_underlying hT, Result.andThen_ok]
      simp only
      rw [Sem.run_bind, hobj, Result.andThen_ok]
      simp only
      rw [Sem.run_bind, run_checkC, Result.andThen_ok, Sem.run_bind, h2, hfind, hf, Result.andThen_ok]
      rw [MapKept.run_setObj_map _ h1]
    · rw [findC_push _ _ _ _ _ _ hf, h3]; rfl
  | some p =>
    obtain ⟨i, u⟩ := p
    obtain ⟨m1, e, m2, m3⟩ := setC_modify (x, y) v (fun e => { e with key := C x y, val := v }) (fun e he => by unfold ent; rw [he]) l i u hf
    refine ⟨{ w with heap := w.heap.setIfInBounds b (.map (es.modify i fun e => { e with key := C x y, val := v }) ck) }, ?_, ⟨es.modify i fun e => { e with key := C x y, val := v }, ck, setC (x, y) v l, by simp [hlt], by rw [Array.toList_modify, h2, m1], fun d => ?_⟩, turn _⟩
    · unfold Instr.mapUpdate
      rw [Sem.run_bind, run_underlying hT, Result.andThen_ok]
      simp only
      rw [Sem.run_bind, hobj, Result.andThen_ok]
      simp only
      rw [Sem.run_bind, run_checkC, Result.andThen_ok, Sem.run_bind, h2, hfind, hf, Result.andThen_ok]
      simp only
      have hk : ((es[i]?).map (·.key)).getD (C x y) = C x y := by rw [← Array.getElem?_toList, h2, m2, Option.map_some, m3]; rfl
      rw [Sem.run_bind, hk, run_staysC, Result.andThen_ok]
      rw [MapKept.run_setObj_map _ h1]
    · rw [findC_setC _ _ _ _ _ (by rw [hf]; rfl), h3]; rfl
theorem FMap.look {w : World} {b : Nat} {f : Int × Int → Option Value} (h : FMap w b f) (T E : TypeId) (hT : Try.prog.underlying T = some (.map 27 E)) (z : Value) (hz : (zeroValue E).run Try.prog w = .ok z w) (x y : Int) (ok : Bool) :
    (Instr.lookup T (.map (some b)) (C x y) ok).run Try.prog w = .ok (if ok then .tuple #[(f (x, y)).getD z, .bool (f (x, y)).isSome] else (f (x, y)).getD z) w := by
  obtain ⟨es, ck, l, h1, h2, h3⟩ := h
  have hfind := run_findC (x, y) w l
  have hobj : (getObj b).run Try.prog w = .ok (.map es ck) w := MapKept.run_getObj_map h1
  unfold Instr.lookup
  rw [Sem.run_bind, run_underlying hT, Result.andThen_ok]
  simp only
  rw [Sem.run_bind, hobj, Result.andThen_ok]
  simp only [Sem.run_pure, Result.andThen_ok, Sem.run_bind]
  rw [run_checkC, Result.andThen_ok, h2, hfind, Result.andThen_ok, ← h3]
  cases hf : findC (x, y) l 0 with
  | none => simp [hz]
  | some p => simp
theorem FMap.look1 {w : World} {b : Nat} {f : Int × Int → Option Value} (h : FMap w b f) (T E : TypeId) (hT : Try.prog.underlying T = some (.map 27 E)) (z : Value) (hz : (zeroValue E).run Try.prog w = .ok z w) (x y : Int) :
    (Instr.lookup T (.map (some b)) (.agg #[.int .i64 x, .int .i64 y]) false).run Try.prog w = .ok ((f (x, y)).getD z) w := by
  have h1 := h.look T E hT z hz x y false
  rw [if_neg Bool.false_ne_true] at h1
  exact h1
/-- The law at a look-up that asks whether the key is there. -/
theorem wpL_look2 {ops : Array Oper} {rest : List Oper} {Q : Exit → Act → World → Prop} {a : Act} {w : World} {dd : Option Tmp} {m k : Operand} {tt : TypeId} {pos : String} {af : Array Edge} {T : TypeId} (E : TypeId) (hT : Try.prog.underlying T = some (.map 27 E)) (z : Value) (hz : ∀ w, (zeroValue E).run Try.prog w = .ok z w) (b : Nat) (f : Int × Int → Option Value) (x y : Int)
    (hm : a.eval m = .map (some b)) (hk : a.eval k = .agg #[.int .i64 x, .int .i64 y]) (hf : FMap w b f)
    (h : wpList Try.prog ops Q rest (a.put dd (.tuple #[(f (x, y)).getD z, .bool (f (x, y)).isSome])) w) :
    wpList Try.prog ops Q ({ dst := dd, op := .lookup T m k true, type := tt, pos := pos, after := af, guard := .none } :: rest) a w := by
  refine wpList_plain rfl fun K hK => ?_
  unfold Oper.wp execOp
  have hl := hf.look T E hT z (hz w) x y true
  unfold C at hl
  simp only [hm, hk, Sem.run_bind, hl, Result.andThen_ok, Sem.run_pure]
  exact hK _ _ h
theorem wpL_look1 {ops : Array Oper} {rest : List Oper} {Q : Exit → Act → World → Prop} {a : Act} {w : World} {dd : Option Tmp} {m k : Operand} {tt : TypeId} {pos : String} {af : Array Edge} {T : TypeId} (E : TypeId) (hT : Try.prog.underlying T = some (.map 27 E)) (z : Value) (hz : ∀ w, (zeroValue E).run Try.prog w = .ok z w) (b : Nat) (f : Int × Int → Option Value) (x y : Int)
    (hm : a.eval m = .map (some b)) (hk : a.eval k = .agg #[.int .i64 x, .int .i64 y]) (hf : FMap w b f)
    (h : wpList Try.prog ops Q rest (a.put dd ((f (x, y)).getD z)) w) :
    wpList Try.prog ops Q ({ dst := dd, op := .lookup T m k false, type := tt, pos := pos, after := af, guard := .none } :: rest) a w := by
  refine wpList_plain rfl fun K hK => ?_
  unfold Oper.wp execOp
  have hl := hf.look T E hT z (hz w) x y false
  unfold C at hl
  simp only [hm, hk, Sem.run_bind, hl, Result.andThen_ok, Sem.run_pure]
  exact hK _ _ h
theorem wpL_upd {ops : Array Oper} {rest : List Oper} {Q : Exit → Act → World → Prop} {a : Act} {w : World} {dd : Option Tmp} {m k u : Operand} {tt : TypeId} {pos : String} {af : Array Edge} {T : TypeId} (E : TypeId) (hT : Try.prog.underlying T = some (.map 27 E)) (b : Nat) (f : Int × Int → Option Value) (x y : Int) (v : Value)
    (hm : a.eval m = .map (some b)) (hk : a.eval k = .agg #[.int .i64 x, .int .i64 y]) (hu : a.eval u = v) (hf : FMap w b f)
    (h : ∀ w', FMap w' b (putF f (x, y) v) → Turn b w w' → wpList Try.prog ops Q rest (a.put dd undef) w') :
    wpList Try.prog ops Q ({ dst := dd, op := .mapUpdate T m k u, type := tt, pos := pos, after := af, guard := .none } :: rest) a w := by
  refine wpList_plain rfl fun K hK => ?_
  unfold Oper.wp execOp
  obtain ⟨w', hr, h1, h2⟩ := hf.update T E hT x y v
  unfold C at hr
  simp only [hm, hk, hu, Sem.run_bind, hr, Result.andThen_ok, Sem.run_pure]
  exact hK _ _ (h w' h1 h2)
theorem wpL_ins {ops : Array Oper} {rest : List Oper} {Q : Exit → Act → World → Prop} {a : Act} {w : World} {dd : Option Tmp} {m k u : Operand} {tt : TypeId} {pos : String} {af : Array Edge} {T : TypeId} (E : TypeId) (hT : Try.prog.underlying T = some (.map 27 E)) (b : Nat) (f : Int × Int → Option Value) (x y : Int) (v : Value)
    (hm : a.eval m = .map (some b)) (hk : a.eval k = .agg #[.int .i64 x, .int .i64 y]) (hu : a.eval u = v) (hf : FMap w b f)
    (h : ∀ w', FMap w' b (putF f (x, y) v) → Turn b w w' → wpList Try.prog ops Q rest (a.put dd undef) w') :
    wpList Try.prog ops Q ({ dst := dd, op := .insert T m k u, type := tt, pos := pos, after := af, guard := .none } :: rest) a w := by
  refine wpList_plain rfl fun K hK => ?_
  unfold Oper.wp execOp
  obtain ⟨w', hr, h1, h2⟩ := hf.update T E hT x y v
  unfold C at hr
  simp only [hm, hk, hu, Sem.run_bind, hr, Result.andThen_ok, Sem.run_pure]
  exact hK _ _ (h w' h1 h2)
theorem zero3 (w : World) : (zeroValue 3).run Try.prog w = .ok (.int .i64 0) w := by kernel_rfl
theorem zero61 (w : World) : (zeroValue 61).run Try.prog w = .ok (.agg #[]) w := by kernel_rfl
end Go.Proofs.Ytemcbonmlmobkaa
