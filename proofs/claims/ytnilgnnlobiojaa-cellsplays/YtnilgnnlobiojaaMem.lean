/- Blocks of memory that are known whole: what a load, a store, a new block and a draw do to them. -/
import Derived.Test.YtnilgnnlobiojaaBase
import Derived.Deep.MidRow
import Derived.Deep.WholeRow
import Derived.Deep.Draws
import Derived.Below
namespace Go.Proofs.Ytnilgnnlobiojaa
open Go.RowKit
theorem hid {p : Prop} (h : p) : Hid p := h

/-- Block b holds just the cells l, of type t, all free to be written. -/
def Blk (w : World) (b : Nat) (l : List Value) (t : TypeId) : Prop := w.heap[b]? = some (.cells l.toArray t (0, 0))

theorem Blk.cell {w : World} {b : Nat} {l : List Value} {t : TypeId} (h : Blk w b l t) (j : Nat) : w.cell? ⟨b, j, none⟩ = l[j]? := by
  rw [cell_of_row w b j _ t _ h]; simp
theorem Blk.frozen {w : World} {b : Nat} {l : List Value} {t : TypeId} (h : Blk w b l t) (j : Nat) : w.frozen? ⟨b, j, none⟩ = false := by
  unfold Blk at h; simp [World.frozen?, h]
theorem Blk.lt {w : World} {b : Nat} {l : List Value} {t : TypeId} (h : Blk w b l t) : b < w.heap.size := (Array.getElem?_eq_some_iff.1 h).1
theorem Blk.set {w : World} {b : Nat} {l : List Value} {t : TypeId} (h : Blk w b l t) (j : Nat) (v : Value) : Blk (w.setCell ⟨b, j, none⟩ v) b (l.set j v) t := by
  have hlt := h.lt
  unfold Blk at *
  simp [World.setCell, Array.getElem?_modify, h]
theorem Blk.set_ne {w : World} {b : Nat} {l : List Value} {t : TypeId} (h : Blk w b l t) (a : Addr) (hn : b ≠ a.block) (v : Value) : Blk (w.setCell a v) b l t := by
  unfold Blk at *
  rw [Below.heap_setCell _ _ _ _ hn]; exact h
theorem Blk.alloc {w : World} {b : Nat} {l : List Value} {t : TypeId} (h : Blk w b l t) (o : Obj) : Blk (w.alloc o) b l t := by
  have := h.lt
  unfold Blk at *
  rw [Below.heap_alloc _ _ _ this]; exact h
theorem Blk.new (w : World) (l : List Value) (t : TypeId) : Blk (w.alloc (.cells l.toArray t)) w.heap.size l t := by
  unfold Blk World.alloc; simp
theorem Blk.new' (w : World) (l : List Value) (t : TypeId) (n : Nat) (hn : n = w.heap.size) : Blk (w.alloc (.cells l.toArray t)) n l t := by
  subst hn; exact Blk.new w l t
theorem Blk.drew {w : World} {b : Nat} {l : List Value} {t : TypeId} (h : Blk w b l t) : Blk w.drew b l t := h
theorem Blk.drewN {w : World} {b : Nat} {l : List Value} {t : TypeId} (h : Blk w b l t) (n : Nat) : Blk (w.drewN n) b l t := h
theorem Blk.below {w w' : World} {b B : Nat} {l : List Value} {t : TypeId} (h : Blk w b l t) (hb : Below B w w') (hB : b < B) : Blk w' b l t := by
  unfold Blk at *; rw [hb.block b hB]; exact h
theorem Blk.inj {w : World} {b : Nat} {l l' : List Value} {t t' : TypeId} (h : Blk w b l t) (h' : Blk w b l' t') : l = l' := by
  unfold Blk at *
  rw [h] at h'
  simp at h'
  exact h'.1
theorem keepCell {w : World} {b' j : Nat} {c : Value} (h : w.cell? ⟨b', j, none⟩ = some c) {b : Nat} (hn : b' ≠ b) (k : Nat) (v : Value) : (w.setCell ⟨b, k, none⟩ v).cell? ⟨b', j, none⟩ = some c := by
  rw [World.cell?_setCell_other]
  · exact h
  · intro e; apply hn; cases e; rfl
theorem keepCellAt {w : World} {b' j : Nat} {c : Value} (h : w.cell? ⟨b', j, none⟩ = some c) {b : Nat} {k : Nat} (hn : j ≠ k) (v : Value) : (w.setCell ⟨b, k, none⟩ v).cell? ⟨b', j, none⟩ = some c := by
  rw [World.cell?_setCell_other]
  · exact h
  · intro e; apply hn; cases e; rfl
theorem drewN2 (w : World) (a b : Nat) : (w.drewN a).drewN b = w.drewN (a + b) := by simp [World.drewN, Nat.add_assoc]
theorem drewN1 (w : World) (a : Nat) : (w.drewN a).drew = w.drewN (a + 1) := rfl
theorem Below.drewN {B : Nat} {a w : World} (h : Below B a w) (n : Nat) : Below B a (w.drewN n) := ⟨h.os, h.tape, h.output, h.size, h.block⟩

section
variable {P : Program}
/-- A whole block is read. -/
theorem Blk.load {w : World} {b : Nat} {l : List Value} {t : TypeId} (h : Blk w b l t) (ty : TypeId) (d : TypeDesc) (hu : P.underlying ty = some d) (hd : d.isRow = true) (hi : (P.info? ty).map (·.size) = some l.length) :
    (Instr.loadAt ty (.pointer (some ⟨b, 0, none⟩))).run P w = .ok (.agg l.toArray) w :=
  run_loadAt_mid w b 0 ty l d (fun j v hv => by rw [Nat.zero_add, h.cell, hv]) hu hd hi
theorem heap_setCells (b : Nat) : ∀ (vs : List Value) (o : Nat) (w : World) (k : Nat), k ≠ b → (w.setCells b o vs).heap[k]? = w.heap[k]?
  | [], _, _, _, _ => rfl
  | v :: r, o, w, k, h => by
    rw [World.setCells, heap_setCells b r (o + 1) _ k h, Below.heap_setCell _ _ _ _ h]
theorem size_setCells (b : Nat) : ∀ (vs : List Value) (o : Nat) (w : World), (w.setCells b o vs).heap.size = w.heap.size
  | [], _, _ => rfl
  | v :: r, o, w => by
    rw [World.setCells, size_setCells b r (o + 1) _]; simp
theorem misc_setCells (b : Nat) : ∀ (vs : List Value) (o : Nat) (w : World), (w.setCells b o vs).os = w.os ∧ (w.setCells b o vs).tape = w.tape ∧ (w.setCells b o vs).output = w.output
  | [], _, _ => ⟨rfl, rfl, rfl⟩
  | v :: r, o, w => by
    rw [World.setCells]; exact misc_setCells b r (o + 1) _
/-- What is stored from place o on. -/
def over (l : List Value) (o : Nat) (vs : List Value) : List Value := l.take o ++ vs ++ l.drop (o + vs.length)
theorem over_cons (l : List Value) (o : Nat) (v : Value) (r : List Value) (h : o < l.length) : over (l.set o v) (o + 1) r = over l o (v :: r) := by
  unfold over
  have hm : min o l.length = o := Nat.min_eq_left (Nat.le_of_lt h)
  have e1 : (l.set o v).take (o + 1) = l.take o ++ [v] := by
    rw [List.set_eq_take_append_cons_drop, if_pos h]
    simp [List.take_append, hm, List.take_take]
  have e2 : (l.set o v).drop (o + 1 + r.length) = l.drop (o + (v :: r).length) := by
    apply List.ext_getElem?
    intro i
    simp [List.getElem?_drop, List.getElem?_set]
    rw [if_neg (by omega)]
    congr 1; omega
  rw [e1, e2]; simp
theorem Blk.setCells {b : Nat} {t : TypeId} : ∀ (vs : List Value) (o : Nat) {w : World} {l : List Value}, Blk w b l t → o + vs.length ≤ l.length → Blk (w.setCells b o vs) b (over l o vs) t
  | [], o, w, l, h, _ => by rw [World.setCells]; simpa [over] using h
  | v :: r, o, w, l, h, hl => by
    rw [World.setCells, ← over_cons l o v r (by simp at hl; omega)]
    exact Blk.setCells r (o + 1) (h.set o v) (by simp at hl ⊢; omega)
theorem Blk.setCells_ne {w : World} {b : Nat} {l : List Value} {t : TypeId} (h : Blk w b l t) (b' : Nat) (hn : b ≠ b') (o : Nat) (vs : List Value) : Blk (w.setCells b' o vs) b l t := by
  unfold Blk at *; rw [heap_setCells _ _ _ _ _ hn]; exact h
theorem Blk.there {w : World} {b : Nat} {l : List Value} {t : TypeId} (h : Blk w b l t) (o n : Nat) (hn : o + n ≤ l.length) : w.there b o n := fun j hj => by
  refine ⟨?_, h.frozen _⟩
  rw [h.cell, List.getElem?_eq_getElem (by omega)]; rfl
/-- Cells are written into a block from place o on. -/
theorem Blk.store {w : World} {b : Nat} {l : List Value} {t : TypeId} (h : Blk w b l t) (o : Nat) (ty : TypeId) (cs : List Value) (hl : o + cs.length ≤ l.length) (hi : (P.info? ty).map (·.size) = some cs.length) (h1 : ∀ v ∈ cs, v.oneCell' = true) :
    (Instr.storeAt ty (.pointer (some ⟨b, o, none⟩)) (.agg cs.toArray)).run P w = .ok () (w.setCells b o cs) := by
  have := run_storeAt_mid (P := P) w b o ty cs.toArray (by simpa using h.there o cs.length hl) (by simpa using hi) (all_oneCell_toArray h1)
  simpa using this
/-- Cells are read from place o on. -/
theorem Blk.loadMid {w : World} {b : Nat} {l : List Value} {t : TypeId} (h : Blk w b l t) (o : Nat) (cs : List Value) (hc : (l.drop o).take cs.length = cs) (ty : TypeId) (d : TypeDesc) (hu : P.underlying ty = some d) (hd : d.isRow = true) (hi : (P.info? ty).map (·.size) = some cs.length) :
    (Instr.loadAt ty (.pointer (some ⟨b, o, none⟩))).run P w = .ok (.agg cs.toArray) w :=
  run_loadAt_mid w b o ty cs d (fun j v hv => by
    have hj : j < cs.length := (List.getElem?_eq_some_iff.1 hv).1
    rw [h.cell, ← hv]
    have e : ((l.drop o).take cs.length)[j]? = cs[j]? := by rw [hc]
    rw [← e, List.getElem?_take, if_pos hj, List.getElem?_drop]) hu hd hi
theorem Blk.range {w : World} {b : Nat} {l : List Value} {t : TypeId} (h : Blk w b l t) : w.rangeAt b 0 l := fun j v hv => by rw [Nat.zero_add, h.cell, hv]
/-- A whole array is read, as the walk meets it. -/
theorem wpL_load {ops : Array Oper} {rest : List Oper} {Q : Exit → Act → World → Prop} {a : Act} {w : World} {dd : Option Tmp} {x : Operand} {tt : TypeId} {pos : String} {af : Array Edge} (ty : TypeId) (b o : Nat) (cs : List Value) (d : TypeDesc)
    (hx : a.eval x = .pointer (some ⟨b, o, none⟩)) (hc : w.rangeAt b o cs) (hu : P.underlying ty = some d) (hd : d.isRow = true) (hi : (P.info? ty).map (·.size) = some cs.length)
    (h : wpList P ops Q rest (a.put dd (.agg cs.toArray)) w) : wpList P ops Q ({ dst := dd, op := .load ty x, type := tt, pos := pos, after := af, guard := none } :: rest) a w :=
  wpList_load_mid rfl ty x rfl b o hx cs d hc hu hd hi h
/-- A whole array is written, as the walk meets it. -/
theorem wpL_store {ops : Array Oper} {rest : List Oper} {Q : Exit → Act → World → Prop} {a : Act} {w : World} {dd : Option Tmp} {x y : Operand} {tt : TypeId} {pos : String} {af : Array Edge} (ty : TypeId) (b o : Nat) (cs : List Value)
    (hx : a.eval x = .pointer (some ⟨b, o, none⟩)) (hy : a.eval y = .agg cs.toArray) (ht : w.there b o cs.length) (hi : (P.info? ty).map (·.size) = some cs.length) (h1 : ∀ v ∈ cs, v.oneCell' = true)
    (h : wpList P ops Q rest (a.put dd undef) (w.setCells b o cs)) : wpList P ops Q ({ dst := dd, op := .store ty x y, type := tt, pos := pos, after := af, guard := none } :: rest) a w :=
  wpList_store_mid rfl ty x y rfl b o cs.toArray hx hy (by simpa using ht) (by simpa using hi) (all_oneCell_toArray h1) (by simpa using h)
/-- A new variable that is given a whole array at once. -/
theorem wpL_new {ops : Array Oper} {rest : List Oper} {Q : Exit → Act → World → Prop} {a : Act} {w : World} {d : Tmp} {y : Operand} {tt tt' : TypeId} {pos pos' : String} {af af' : Array Edge} (ty : TypeId) (z cs : List Value)
    (hz : ∀ w, (zeroValue ty).run P w = .ok (.agg z.toArray) w) (hlen : z.length = cs.length)
    (hp : (a.put (some d) (.pointer (some ⟨w.heap.size, 0, none⟩))).eval (.tmp d) = .pointer (some ⟨w.heap.size, 0, none⟩))
    (hy : (a.put (some d) (.pointer (some ⟨w.heap.size, 0, none⟩))).eval y = .agg cs.toArray)
    (hi : (P.info? ty).map (·.size) = some cs.length) (h1 : ∀ v ∈ cs, v.oneCell' = true)
    (h : wpList P ops Q rest (a.put (some d) (.pointer (some ⟨w.heap.size, 0, none⟩))) (w.alloc (.cells cs.toArray ty))) :
    wpList P ops Q ({ dst := some d, op := .alloc ty, type := tt, pos := pos, after := af, guard := none } :: { dst := none, op := .store ty (.tmp d) y, type := tt', pos := pos', after := af', guard := none } :: rest) a w := by
  refine wpList_plain rfl fun K hK => ?_
  unfold Oper.wp execOp
  have ha : (Instr.alloc ty true (.tuple #[])).run P w = .ok (.pointer (some ⟨w.heap.size, 0, none⟩)) (w.alloc (.cells z.toArray ty)) := by
    simp [Instr.alloc, hz, go_sem]
  simp only [Sem.run_bind, ha, Result.andThen_ok, Sem.run_pure]
  refine hK _ _ ?_
  refine wpList_plain rfl fun K' hK' => ?_
  unfold Oper.wp execOp
  have hs := run_storeAt_new (P := P) w ty z.toArray cs.toArray (by simpa using hi) (by simpa using hlen) (all_oneCell_toArray h1)
  simp only [hp, hy, Sem.run_bind, hs, Result.andThen_ok, Sem.run_pure]
  exact hK' _ _ h
/-- A function that hands an array back: it is read from the block that stands in slot p. -/
theorem results_array {fn : Func} {p : Tmp} {ty : TypeId} (h : fn.results = #[.cell p ty]) {tmps : Array Value} {w : World} {b : Nat} {l : List Value} {t : TypeId} {d : TypeDesc}
    (hp : tmps.getD p undef = .pointer (some ⟨b, 0, none⟩)) (hb : Blk w b l t) (hu : P.underlying ty = some d) (hd : d.isRow = true) (hi : (P.info? ty).map (·.size) = some l.length) :
    (results fn tmps).run P w = .ok (.agg l.toArray) w := by
  have hl := run_loadVar_mid (P := P) w b 0 ty l d hb.range hu hd hi
  simp only [results, h]
  have ha : (asAddr (tmps[p]?.getD undef)).run P w = .ok ⟨b, 0, none⟩ w := by
    have : tmps[p]?.getD undef = .pointer (some ⟨b, 0, none⟩) := by simpa using hp
    rw [this]; rfl
  simp [Sem.run_bind, Result.andThen, ha, hl]
theorem Below.setCells {B : Nat} {a w : World} (h : Below B a w) {b : Nat} (hb : B ≤ b) (o : Nat) (vs : List Value) : Below B a (w.setCells b o vs) :=
  h.trans ⟨(misc_setCells b vs o w).1, (misc_setCells b vs o w).2.1, (misc_setCells b vs o w).2.2, by rw [size_setCells]; exact Nat.le_refl _, fun k hk => heap_setCells b vs o w k (by omega)⟩
end
end Go.Proofs.Ytnilgnnlobiojaa
