/- Maps whose keys are integers, that a call makes: what they hold, key by key, and how many. -/
import Derived.Test.YtnilgnnlobiojaaFmap
namespace Go.Proofs.Ytnilgnnlobiojaa
open Go.RowKit
/-- An entry of a map keyed by integers. -/
def entI (p : Int × Value × Nat) : MapEntry := { key := .int .i64 p.1, val := p.2.1, born := p.2.2 }
/-- Where a key stands. -/
def findI (c : Int) : List (Int × Value × Nat) → Nat → Option (Nat × Value)
  | [], _ => none
  | e :: es, i => if c = e.1 then some (i, e.2.1) else findI c es (i + 1)
theorem run_checkI (e : Bool) (a : Int) (w : World) : (Instr.checkKey e 10000 3 (.int .i64 a)).run Try.prog w = .ok () w := by
  rw [Instr.checkKey, Sem.run_bind, run_underlying Try.underlying3]; rfl
theorem run_staysI (a : Int) (w : World) : (Instr.keyThatStays (.int .i64 a) (.int .i64 a)).run Try.prog w = .ok (.int .i64 a) w := by
  have : Instr.sameBits 10000 (.int .i64 a) (.int .i64 a) = true := by simp [Instr.sameBits]
  unfold Instr.keyThatStays
  rw [if_pos this]; rfl
theorem findNowI (k : IntKind) (c : Int) : ∀ (l : List (Int × Value × Nat)) (i : Nat), Instr.findNow (.int k) (.int .i64 c) (l.map entI) i = some (findI c l i)
  | [], _ => rfl
  | e :: es, i => by
    rw [List.map_cons, Instr.findNow, show (entI e).key = .int .i64 e.1 from rfl]
    have hs : Instr.sameNow (.int k) (.int .i64 c) (.int .i64 e.1) = some (c == e.1) := by simp [Instr.sameNow]
    rw [hs]
    unfold findI
    by_cases h : c = e.1
    · have hb : (c == e.1) = true := by simpa using h
      rw [if_pos h, hb]; rfl
    · have hb : (c == e.1) = false := by simpa using h
      rw [if_neg h, hb]
      exact findNowI k c es (i + 1)
theorem run_findI (c : Int) (w : World) (l : List (Int × Value × Nat)) : (Instr.findKey 3 (.int .i64 c) (l.map entI)).run Try.prog w = .ok (findI c l 0) w :=
  MapKept.run_findKey Try.underlying3 (findNowI _ c l 0)
/-- No key and no stamp stands twice, and no stamp is of the future. -/
structure FineI (l : List (Int × Value × Nat)) (ck : Nat) : Prop where
  keys : (l.map (·.1)).Nodup
  born : (l.map (·.2.2)).Nodup
  past : ∀ e ∈ l, e.2.2 < ck
/-- Block b is a map keyed by integers that holds f. -/
def IMap (w : World) (b : Nat) (f : Int → Option Value) (n : Nat) : Prop := ∃ es ck l, l.length = n ∧ w.heap[b]? = some (.map es ck) ∧ es.toList = l.map entI ∧ (∀ c, (findI c l 0).map (·.2) = f c) ∧ FineI l ck
theorem IMap.keep {w w' : World} {b : Nat} {f : Int → Option Value} {n : Nat} (h : IMap w b f n) (hb : w'.heap[b]? = w.heap[b]?) : IMap w' b f n := by
  obtain ⟨es, ck, l, h0, h1, h2⟩ := h
  exact ⟨es, ck, l, h0, hb.trans h1, h2⟩
theorem IMap.lt {w : World} {b : Nat} {f : Int → Option Value} {n : Nat} (h : IMap w b f n) : b < w.heap.size := by
  obtain ⟨es, ck, l, h0, h1, h2⟩ := h
  exact (Array.getElem?_eq_some_iff.1 h1).1
theorem IMap.below {w w' : World} {b B : Nat} {f : Int → Option Value} {n : Nat} (h : IMap w b f n) (hb : Below B w w') (hB : b < B) : IMap w' b f n := h.keep (hb.block b hB)
theorem IMap.new (w : World) : IMap (w.alloc (.map #[] 0)) w.heap.size (fun _ => none) 0 := ⟨#[], 0, [], rfl, by unfold World.alloc; simp, rfl, fun _ => rfl, ⟨by simp, by simp, by simp⟩⟩
theorem findI_shift (c : Int) : ∀ (l : List (Int × Value × Nat)) (i j : Nat), (findI c l (i + j)) = (findI c l i).map (fun p => (p.1 + j, p.2))
  | [], _, _ => rfl
  | e :: es, i, j => by
    unfold findI
    by_cases h : c = e.1
    · rw [if_pos h, if_pos h]; rfl
    · rw [if_neg h, if_neg h, show i + j + 1 = (i + 1) + j by omega, findI_shift c es (i + 1) j]
/-- A value is laid at a key that is there. -/
def setI (c : Int) (v : Value) : List (Int × Value × Nat) → List (Int × Value × Nat)
  | [] => []
  | e :: es => if c = e.1 then (e.1, v, e.2.2) :: es else e :: setI c v es
theorem setI_modify (c : Int) (v : Value) (g : MapEntry → MapEntry) (hg : ∀ e : (Int) × Value × Nat, e.1 = c → g (entI e) = entI (e.1, v, e.2.2)) : ∀ (l : List (Int × Value × Nat)) (i : Nat) (u : Value), findI c l 0 = some (i, u) →
    (l.map entI).modify i g = (setI c v l).map entI ∧ ∃ e, (l.map entI)[i]? = some e ∧ e.key = (.int .i64 c)
  | [], _, _, h => by cases h
  | e :: es, i, u, h => by
    unfold findI at h
    unfold setI
    by_cases hc : c = e.1
    · rw [if_pos hc] at h ⊢
      cases h
      refine ⟨?_, entI e, rfl, by rw [hc]; rfl⟩
      rw [List.map_cons, List.modify_zero_cons, hg e hc.symm]; rfl
    · rw [if_neg hc] at h ⊢
      rw [findI_shift c es 0 1] at h
      cases hf : findI c es 0 with
      | none => rw [hf] at h; cases h
      | some p =>
        rw [hf] at h
        cases h
        obtain ⟨h1, h2⟩ := setI_modify c v g hg es p.1 p.2 hf
        exact ⟨by rw [List.map_cons, List.modify_succ_cons, h1]; rfl, h2⟩
theorem findI_setC (c : Int) (v : Value) (d : Int) : ∀ (l : List (Int × Value × Nat)) (i : Nat), (findI c l i).isSome → (findI d (setI c v l) i).map (·.2) = if d = c then some v else (findI d l i).map (·.2)
  | [], i, h => by cases h
  | e :: es, i, h => by
    unfold findI at h
    unfold setI
    by_cases hc : c = e.1
    · rw [if_pos hc]
      unfold findI
      simp only
      subst hc
      by_cases hd : d = e.1
      · rw [if_pos hd, if_pos hd]; rfl
      · rw [if_neg hd, if_neg hd, if_neg hd]
    · rw [if_neg hc] at h ⊢
      unfold findI
      by_cases hd : d = e.1
      · rw [if_pos hd, if_pos hd, if_neg (by rw [hd]; exact fun h => hc h.symm)]
      · rw [if_neg hd, if_neg hd]
        exact findI_setC c v d es (i + 1) h
theorem findI_push (c : Int) (v : Value) (ck : Nat) (d : Int) : ∀ (l : List (Int × Value × Nat)) (i : Nat), findI c l i = none → (findI d (l ++ [(c, v, ck)]) i).map (·.2) = if d = c then some v else (findI d l i).map (·.2)
  | [], i, _ => by
    show (findI d [(c, v, ck)] i).map (·.2) = if d = c then some v else none
    unfold findI
    by_cases hd : d = c
    · rw [if_pos hd, if_pos hd]; rfl
    · rw [if_neg hd, if_neg hd]; rfl
  | e :: es, i, h => by
    unfold findI at h
    by_cases hc : c = e.1
    · rw [if_pos hc] at h; cases h
    · rw [if_neg hc] at h
      rw [List.cons_append]
      unfold findI
      by_cases hd : d = e.1
      · rw [if_pos hd, if_pos hd, if_neg (by rw [hd]; exact fun h => hc h.symm)]
      · rw [if_neg hd, if_neg hd]
        exact findI_push c v ck d es (i + 1) h
theorem findI_none {c : Int} : ∀ {l : List (Int × Value × Nat)} {i : Nat}, findI c l i = none → c ∉ l.map (·.1)
  | [], _, _ => by simp
  | e :: es, i, h => by
    unfold findI at h
    by_cases hc : c = e.1
    · rw [if_pos hc] at h; cases h
    · rw [if_neg hc] at h
      have := findI_none h
      simp only [List.map_cons, List.mem_cons, not_or]
      exact ⟨hc, this⟩
theorem setI_keys (c : Int) (v : Value) : ∀ l : List (Int × Value × Nat), (setI c v l).map (·.1) = l.map (·.1) ∧ (setI c v l).map (·.2.2) = l.map (·.2.2)
  | [] => ⟨rfl, rfl⟩
  | e :: es => by
    unfold setI
    by_cases hc : c = e.1
    · rw [if_pos hc]; exact ⟨rfl, rfl⟩
    · rw [if_neg hc]
      obtain ⟨h1, h2⟩ := setI_keys c v es
      exact ⟨by rw [List.map_cons, List.map_cons, h1], by rw [List.map_cons, List.map_cons, h2]⟩
theorem setI_len (c : Int) (v : Value) (l : List (Int × Value × Nat)) : (setI c v l).length = l.length := by
  have := congrArg List.length (setI_keys c v l).1
  simpa using this
theorem FineI.set {l : List (Int × Value × Nat)} {ck : Nat} (h : FineI l ck) (c : Int) (v : Value) : FineI (setI c v l) ck := by
  obtain ⟨h1, h2⟩ := setI_keys c v l
  refine ⟨by rw [h1]; exact h.keys, by rw [h2]; exact h.born, fun e he => ?_⟩
  have : e.2.2 ∈ (setI c v l).map (·.2.2) := List.mem_map.2 ⟨e, he, rfl⟩
  rw [h2] at this
  obtain ⟨e', he', hee⟩ := List.mem_map.1 this
  rw [← hee]; exact h.past e' he'
theorem FineI.push {l : List (Int × Value × Nat)} {ck : Nat} (h : FineI l ck) {c : Int} (v : Value) (hc : c ∉ l.map (·.1)) : FineI (l ++ [(c, v, ck)]) (ck + 1) := by
  refine ⟨?_, ?_, fun e he => ?_⟩
  · rw [List.map_append, List.nodup_append]
    refine ⟨h.keys, by simp, fun x hx y hy => ?_⟩
    simp at hy
    subst hy
    exact fun he => hc (he ▸ hx)
  · rw [List.map_append, List.nodup_append]
    refine ⟨h.born, by simp, fun x hx y hy => ?_⟩
    simp at hy
    subst hy
    obtain ⟨e, he, rfl⟩ := List.mem_map.1 hx
    have := h.past e he
    omega
  · rcases List.mem_append.1 he with he | he
    · have := h.past e he; omega
    · simp at he; subst he; exact Nat.lt_succ_self _
/-- A key is taken out. -/
def delI (c : Int) : List (Int × Value × Nat) → List (Int × Value × Nat)
  | [] => []
  | e :: es => if c = e.1 then es else e :: delI c es
theorem delI_erase (c : Int) : ∀ (l : List (Int × Value × Nat)) (i : Nat) (u : Value), findI c l 0 = some (i, u) → (l.map entI).eraseIdx i = (delI c l).map entI ∧ i < l.length
  | [], _, _, h => by cases h
  | e :: es, i, u, h => by
    unfold findI at h
    unfold delI
    by_cases hc : c = e.1
    · rw [if_pos hc] at h ⊢
      cases h
      exact ⟨rfl, by simp⟩
    · rw [if_neg hc] at h ⊢
      rw [findI_shift c es 0 1] at h
      cases hf : findI c es 0 with
      | none => rw [hf] at h; cases h
      | some p =>
        rw [hf] at h
        cases h
        obtain ⟨h1, h2⟩ := delI_erase c es p.1 p.2 hf
        exact ⟨by rw [List.map_cons, List.eraseIdx_cons_succ, h1]; rfl, by simp; exact h2⟩
theorem delI_sub (c : Int) : ∀ l : List (Int × Value × Nat), (delI c l).Sublist l
  | [] => by unfold delI; exact List.Sublist.refl _
  | e :: es => by
    unfold delI
    by_cases hc : c = e.1
    · rw [if_pos hc]; exact List.sublist_cons_self _ _
    · rw [if_neg hc]; exact (delI_sub c es).cons_cons _
theorem delI_len (c : Int) : ∀ (l : List (Int × Value × Nat)), (findI c l 0).isSome → (delI c l).length = l.length - 1
  | [], h => by cases h
  | e :: es, h => by
    unfold delI
    by_cases hc : c = e.1
    · rw [if_pos hc]; rfl
    · rw [if_neg hc]
      unfold findI at h
      rw [if_neg hc, findI_shift c es 0 1] at h
      have h' : (findI c es 0).isSome := by cases hf : findI c es 0 <;> rw [hf] at h <;> simp at h ⊢
      have ih := delI_len c es h'
      have hpos : 0 < es.length := by
        cases es with
        | nil => cases h'
        | cons a b => simp
      rw [List.length_cons, ih, List.length_cons]; omega
theorem FineI.del {l : List (Int × Value × Nat)} {ck : Nat} (h : FineI l ck) (c : Int) : FineI (delI c l) ck :=
  ⟨((delI_sub c l).map _).nodup h.keys, ((delI_sub c l).map _).nodup h.born, fun e he => h.past e ((delI_sub c l).subset he)⟩
theorem findI_not {d : Int} : ∀ {l : List (Int × Value × Nat)} {i : Nat}, d ∉ l.map (·.1) → findI d l i = none
  | [], _, _ => rfl
  | e :: es, i, h => by
    simp only [List.map_cons, List.mem_cons, not_or] at h
    unfold findI
    rw [if_neg h.1]
    exact findI_not h.2
theorem findI_delC (c d : Int) : ∀ (l : List (Int × Value × Nat)), (l.map (·.1)).Nodup → (findI d (delI c l) 0).map (·.2) = if d = c then none else (findI d l 0).map (·.2)
  | [], _ => by unfold delI findI; simp
  | e :: es, h => by
    rw [List.map_cons, List.nodup_cons] at h
    unfold delI
    by_cases hc : c = e.1
    · rw [if_pos hc]
      by_cases hd : d = c
      · rw [if_pos hd, findI_not (by rw [hd, hc]; exact h.1)]; rfl
      · rw [if_neg hd]
        conv => rhs; unfold findI
        rw [if_neg (by rw [← hc]; exact hd), findI_shift d es 0 1]
        cases findI d es 0 <;> rfl
    · rw [if_neg hc]
      unfold findI
      by_cases hd : d = e.1
      · rw [if_pos hd, if_pos hd, if_neg (by rw [hd]; exact fun h => hc h.symm)]
      · rw [if_neg hd, if_neg hd, findI_shift d (delI c es) 0 1, findI_shift d es 0 1]
        have := findI_delC c d es h.2
        cases h1 : findI d (delI c es) 0 <;> cases h2 : findI d es 0 <;> rw [h1, h2] at this <;> exact this
theorem findI_mem : ∀ {l : List (Int × Value × Nat)} {i : Nat}, (l.map (·.1)).Nodup → ∀ e ∈ l, (findI e.1 l i).map (·.2) = some e.2.1
  | [], _, _, e, he => by cases he
  | x :: es, i, h, e, he => by
    rw [List.map_cons, List.nodup_cons] at h
    unfold findI
    rcases List.mem_cons.1 he with rfl | he
    · rw [if_pos rfl]; rfl
    · rw [if_neg (fun heq => h.1 (by rw [← heq]; exact List.mem_map.2 ⟨e, he, rfl⟩))]
      exact findI_mem h.2 e he
/-- What is laid at a key of a map. -/
def putG (f : Int → Option Value) (c : Int) (v : Value) : Int → Option Value := fun d => if d = c then some v else f d
theorem IMap.update {w : World} {b : Nat} {f : Int → Option Value} {n : Nat} (h : IMap w b f n) (T E : TypeId) (hT : Try.prog.underlying T = some (.map 3 E)) (x : Int) (v : Value) :
    ∃ w', (Instr.mapUpdate T (.map (some b)) ((.int .i64 x)) v).run Try.prog w = .ok () w' ∧ IMap w' b (putG f x v) (if (f x).isSome then n else n + 1) ∧ Turn b w w' := by
  obtain ⟨es, ck, l, h0, h1, h2, h3, h4⟩ := h
  have hlt := (Array.getElem?_eq_some_iff.1 h1).1
  have hfind := run_findI x w l
  have hobj : (getObj b).run Try.prog w = .ok (.map es ck) w := MapKept.run_getObj_map h1
  have turn : ∀ o, Turn b w { w with heap := w.heap.setIfInBounds b o } := fun o => ⟨rfl, rfl, rfl, by simp, fun k hk => by simp [Ne.symm hk]⟩
  cases hf : findI x l 0 with
  | none =>
    refine ⟨{ w with heap := w.heap.setIfInBounds b (.map (es.push { key := (.int .i64 x), val := v, born := ck }) (ck + 1)) }, ?_, ⟨es.push { key := (.int .i64 x), val := v, born := ck }, ck + 1, l ++ [(x, v, ck)], by rw [← h3 x, hf, List.length_append, h0]; rfl, by simp [hlt], by simp [h2, entI], fun d => ?_, h4.push v (findI_none hf)⟩, turn _⟩
    · unfold Instr.mapUpdate
      rw [Sem.run_bind, run_underlying hT, Result.andThen_ok]
      simp only
      rw [Sem.run_bind, hobj, Result.andThen_ok]
      simp only
      rw [Sem.run_bind, run_checkI, Result.andThen_ok, Sem.run_bind, h2, hfind, hf, Result.andThen_ok]
      rw [MapKept.run_setObj_map _ h1]
    · rw [findI_push _ _ _ _ _ _ hf, h3]; rfl
  | some p =>
    obtain ⟨i, u⟩ := p
    obtain ⟨m1, e, m2, m3⟩ := setI_modify x v (fun e => { e with key := (.int .i64 x), val := v }) (fun e he => by unfold entI; rw [he]) l i u hf
    refine ⟨{ w with heap := w.heap.setIfInBounds b (.map (es.modify i fun e => { e with key := (.int .i64 x), val := v }) ck) }, ?_, ⟨es.modify i fun e => { e with key := (.int .i64 x), val := v }, ck, setI x v l, by rw [← h3 x, hf]; exact (setI_len x v l).trans h0, by simp [hlt], by rw [Array.toList_modify, h2, m1], fun d => ?_, h4.set _ _⟩, turn _⟩
    · unfold Instr.mapUpdate
      rw [Sem.run_bind, run_underlying hT, Result.andThen_ok]
      simp only
      rw [Sem.run_bind, hobj, Result.andThen_ok]
      simp only
      rw [Sem.run_bind, run_checkI, Result.andThen_ok, Sem.run_bind, h2, hfind, hf, Result.andThen_ok]
      simp only
      have hk : ((es[i]?).map (·.key)).getD ((.int .i64 x)) = (.int .i64 x) := by rw [← Array.getElem?_toList, h2, m2, Option.map_some, m3]; rfl
      rw [Sem.run_bind, hk, run_staysI, Result.andThen_ok]
      rw [MapKept.run_setObj_map _ h1]
    · rw [findI_setC _ _ _ _ _ (by rw [hf]; rfl), h3]; rfl
theorem IMap.look {w : World} {b : Nat} {f : Int → Option Value} {n : Nat} (h : IMap w b f n) (T E : TypeId) (hT : Try.prog.underlying T = some (.map 3 E)) (z : Value) (hz : (zeroValue E).run Try.prog w = .ok z w) (x : Int) (ok : Bool) :
    (Instr.lookup T (.map (some b)) ((.int .i64 x)) ok).run Try.prog w = .ok (if ok then .tuple #[(f x).getD z, .bool (f x).isSome] else (f x).getD z) w := by
  obtain ⟨es, ck, l, h0, h1, h2, h3, h4⟩ := h
  have hfind := run_findI x w l
  have hobj : (getObj b).run Try.prog w = .ok (.map es ck) w := MapKept.run_getObj_map h1
  unfold Instr.lookup
  rw [Sem.run_bind, run_underlying hT, Result.andThen_ok]
  simp only
  rw [Sem.run_bind, hobj, Result.andThen_ok]
  simp only [Sem.run_pure, Result.andThen_ok, Sem.run_bind]
  rw [run_checkI, Result.andThen_ok, h2, hfind, Result.andThen_ok, ← h3]
  cases hf : findI x l 0 with
  | none => simp [hz]
  | some p => simp
theorem IMap.look1 {w : World} {b : Nat} {f : Int → Option Value} {n : Nat} (h : IMap w b f n) (T E : TypeId) (hT : Try.prog.underlying T = some (.map 3 E)) (z : Value) (hz : (zeroValue E).run Try.prog w = .ok z w) (x : Int) :
    (Instr.lookup T (.map (some b)) (.int .i64 x) false).run Try.prog w = .ok ((f x).getD z) w := by
  have h1 := h.look T E hT z hz x false
  rw [if_neg Bool.false_ne_true] at h1
  exact h1
/-- The law at a look-up that asks whether the key is there. -/
theorem wpL_lookI2 {ops : Array Oper} {rest : List Oper} {Q : Exit → Act → World → Prop} {a : Act} {w : World} {dd : Option Tmp} {m k : Operand} {tt : TypeId} {pos : String} {af : Array Edge} {T : TypeId} (E : TypeId) (hT : Try.prog.underlying T = some (.map 3 E)) (z : Value) (hz : ∀ w, (zeroValue E).run Try.prog w = .ok z w) (b : Nat) (f : Int → Option Value) (x : Int)
    (hm : a.eval m = .map (some b)) (hk : a.eval k = .int .i64 x) {n : Nat} (hf : IMap w b f n)
    (h : wpList Try.prog ops Q rest (a.put dd (.tuple #[(f x).getD z, .bool (f x).isSome])) w) :
    wpList Try.prog ops Q ({ dst := dd, op := .lookup T m k true, type := tt, pos := pos, after := af, guard := .none } :: rest) a w := by
  refine wpList_plain rfl fun K hK => ?_
  unfold Oper.wp execOp
  have hl := hf.look T E hT z (hz w) x true
  simp only [hm, hk, Sem.run_bind, hl, Result.andThen_ok, Sem.run_pure]
  exact hK _ _ h
theorem wpL_lookI1 {ops : Array Oper} {rest : List Oper} {Q : Exit → Act → World → Prop} {a : Act} {w : World} {dd : Option Tmp} {m k : Operand} {tt : TypeId} {pos : String} {af : Array Edge} {T : TypeId} (E : TypeId) (hT : Try.prog.underlying T = some (.map 3 E)) (z : Value) (hz : ∀ w, (zeroValue E).run Try.prog w = .ok z w) (b : Nat) (f : Int → Option Value) (x : Int)
    (hm : a.eval m = .map (some b)) (hk : a.eval k = .int .i64 x) {n : Nat} (hf : IMap w b f n)
    (h : wpList Try.prog ops Q rest (a.put dd ((f x).getD z)) w) :
    wpList Try.prog ops Q ({ dst := dd, op := .lookup T m k false, type := tt, pos := pos, after := af, guard := .none } :: rest) a w := by
  refine wpList_plain rfl fun K hK => ?_
  unfold Oper.wp execOp
  have hl := hf.look T E hT z (hz w) x false
  simp only [hm, hk, Sem.run_bind, hl, Result.andThen_ok, Sem.run_pure]
  exact hK _ _ h
theorem wpL_updI {ops : Array Oper} {rest : List Oper} {Q : Exit → Act → World → Prop} {a : Act} {w : World} {dd : Option Tmp} {m k u : Operand} {tt : TypeId} {pos : String} {af : Array Edge} {T : TypeId} (E : TypeId) (hT : Try.prog.underlying T = some (.map 3 E)) (b : Nat) (f : Int → Option Value) (x : Int) (v : Value)
    (hm : a.eval m = .map (some b)) (hk : a.eval k = .int .i64 x) (hu : a.eval u = v) {n : Nat} (hf : IMap w b f n)
    (h : ∀ w', IMap w' b (putG f x v) (if (f x).isSome then n else n + 1) → Turn b w w' → wpList Try.prog ops Q rest (a.put dd undef) w') :
    wpList Try.prog ops Q ({ dst := dd, op := .mapUpdate T m k u, type := tt, pos := pos, after := af, guard := .none } :: rest) a w := by
  refine wpList_plain rfl fun K hK => ?_
  unfold Oper.wp execOp
  obtain ⟨w', hr, h1, h2⟩ := hf.update T E hT x v
  simp only [hm, hk, hu, Sem.run_bind, hr, Result.andThen_ok, Sem.run_pure]
  exact hK _ _ (h w' h1 h2)
theorem wpL_insI {ops : Array Oper} {rest : List Oper} {Q : Exit → Act → World → Prop} {a : Act} {w : World} {dd : Option Tmp} {m k u : Operand} {tt : TypeId} {pos : String} {af : Array Edge} {T : TypeId} (E : TypeId) (hT : Try.prog.underlying T = some (.map 3 E)) (b : Nat) (f : Int → Option Value) (x : Int) (v : Value)
    (hm : a.eval m = .map (some b)) (hk : a.eval k = .int .i64 x) (hu : a.eval u = v) {n : Nat} (hf : IMap w b f n)
    (h : ∀ w', IMap w' b (putG f x v) (if (f x).isSome then n else n + 1) → Turn b w w' → wpList Try.prog ops Q rest (a.put dd undef) w') :
    wpList Try.prog ops Q ({ dst := dd, op := .insert T m k u, type := tt, pos := pos, after := af, guard := .none } :: rest) a w := by
  refine wpList_plain rfl fun K hK => ?_
  unfold Oper.wp execOp
  obtain ⟨w', hr, h1, h2⟩ := hf.update T E hT x v
  simp only [hm, hk, hu, Sem.run_bind, hr, Result.andThen_ok, Sem.run_pure]
  exact hK _ _ (h w' h1 h2)
/-- What is left when a key is taken out. -/
def dropG (f : Int → Option Value) (c : Int) : Int → Option Value := fun d => if d = c then none else f d
theorem IMap.delete {w : World} {b : Nat} {f : Int → Option Value} {n : Nat} (h : IMap w b f n) (T E ty : TypeId) (hT : Try.prog.underlying T = some (.map 3 E)) (x : Int) :
    ∃ w', (Builtin.delete_ #[T, 3] ty #[.map (some b), (.int .i64 x)]).run Try.prog w = .ok (.tuple #[]) w' ∧ IMap w' b (dropG f x) (if (f x).isSome then n - 1 else n) ∧ Turn b w w' := by
  obtain ⟨es, ck, l, h0, h1, h2, h3, h4⟩ := h
  have hlt := (Array.getElem?_eq_some_iff.1 h1).1
  have hfind := run_findI x w l
  have turn : ∀ o, Turn b w { w with heap := w.heap.setIfInBounds b o } := fun o => ⟨rfl, rfl, rfl, by simp, fun k hk => by simp [Ne.symm hk]⟩
  cases hf : findI x l 0 with
  | none =>
    refine ⟨{ w with heap := w.heap.setIfInBounds b (.map es ck) }, ?_, ⟨es, ck, l, by rw [← h3 x, hf]; exact h0, by simp [hlt], h2, fun d => ?_, h4⟩, turn _⟩
    · rw [hf] at hfind
      simp [Builtin.delete_, run_underlying hT, MapKept.run_getObj_map h1, run_checkI, h2, hfind, MapKept.run_setObj_map _ h1, Result.andThen, Sem.run_bind]
    · unfold dropG
      by_cases hd : d = x
      · rw [if_pos hd, hd, hf]; rfl
      · rw [if_neg hd, h3]
  | some p =>
    obtain ⟨i, u⟩ := p
    obtain ⟨m1, m2⟩ := delI_erase x l i u hf
    have hsz : i < es.size := by
      rw [← Array.length_toList, h2, List.length_map]; exact m2
    have hsub : (es.eraseIdxIfInBounds i).toList = es.toList.eraseIdx i := by
      unfold Array.eraseIdxIfInBounds
      rw [dif_pos hsz]
      simp
    refine ⟨{ w with heap := w.heap.setIfInBounds b (.map (es.eraseIdxIfInBounds i) ck) }, ?_, ⟨es.eraseIdxIfInBounds i, ck, delI x l, by rw [← h3 x, hf, delI_len x l (by rw [hf]; rfl), h0]; rfl, by simp [hlt], by rw [hsub, h2, m1], fun d => ?_, h4.del _⟩, turn _⟩
    · rw [hf] at hfind
      simp [Builtin.delete_, run_underlying hT, MapKept.run_getObj_map h1, run_checkI, h2, hfind, MapKept.run_setObj_map _ h1, Result.andThen, Sem.run_bind]
    · rw [findI_delC _ _ _ h4.keys]
      unfold dropG
      rw [h3]
theorem wpL_delI {ops : Array Oper} {rest : List Oper} {Q : Exit → Act → World → Prop} {a : Act} {w : World} {dd : Option Tmp} {m k : Operand} {tt : TypeId} {pos : String} {af : Array Edge} {T : TypeId} (E : TypeId) (hT : Try.prog.underlying T = some (.map 3 E)) (b : Nat) (f : Int → Option Value) (x : Int)
    (hm : a.eval m = .map (some b)) (hk : a.eval k = .int .i64 x) {n : Nat} (hf : IMap w b f n)
    (h : ∀ w', IMap w' b (dropG f x) (if (f x).isSome then n - 1 else n) → Turn b w w' → wpList Try.prog ops Q rest (a.put dd (.tuple #[])) w') :
    wpList Try.prog ops Q ({ dst := dd, op := Op.call { callee := Callee.builtin Builtin.delete, args := #[m, k], argTypes := #[T, 3] }, type := tt, pos := pos, after := af, guard := .none } :: rest) a w := by
  refine wpList_plain rfl fun K hK => ?_
  unfold Oper.wp
  obtain ⟨w', hr, h1, h2⟩ := hf.delete T E tt hT x
  simp [execOp, resolve, invoke, builtin, hm, hk, hr, Result.andThen]
  exact hK _ _ (h w' h1 h2)
end Go.Proofs.Ytnilgnnlobiojaa
