/- Tables of entities in memory. -/
import Derived.Test.YtdagkeklfhlcnaaNx
import Derived.StillTailTactics
import Derived.Deep.RegionWith
import Derived.Deep.DeepCutAuto
namespace Go.Proofs.Ytdagkeklfhlcnaa
open Go.RowKit
/-- Entities (each eleven numbers), laid flat. -/
def fl (l : List (List Int)) : List Value := l.flatMap (·.map I)
theorem fl_append (a b : List (List Int)) : fl (a ++ b) = fl a ++ fl b := by simp [fl]
theorem fl_cons (e : List Int) (l : List (List Int)) : fl (e :: l) = e.map I ++ fl l := by simp [fl]
def Elev (l : List (List Int)) : Prop := ∀ e ∈ l, e.length = 11
theorem Elev.cons {e : List Int} {l : List (List Int)} : Elev (e :: l) ↔ e.length = 11 ∧ Elev l := by
  unfold Elev
  constructor
  · intro h; exact ⟨h e (by simp), fun x hx => h x (by simp [hx])⟩
  · intro h x hx
    rcases List.mem_cons.1 hx with rfl | hx
    · exact h.1
    · exact h.2 x hx
theorem Elev.append {a b : List (List Int)} : Elev (a ++ b) ↔ Elev a ∧ Elev b := by
  unfold Elev
  constructor
  · intro h; exact ⟨fun x hx => h x (by simp [hx]), fun x hx => h x (by simp [hx])⟩
  · intro h x hx
    rcases List.mem_append.1 hx with hx | hx
    · exact h.1 x hx
    · exact h.2 x hx
theorem fl_length : ∀ {l : List (List Int)}, Elev l → (fl l).length = l.length * 11
  | [], _ => rfl
  | e :: l, h => by
    have h' := Elev.cons.1 h
    rw [fl_cons, List.length_append, List.length_map, h'.1, fl_length h'.2, List.length_cons]; omega
theorem fl_one (l : List (List Int)) : ∀ v ∈ fl l, v.oneCell' = true := by
  intro v hv
  obtain ⟨e, _, h⟩ := List.mem_flatMap.1 hv
  obtain ⟨z, _, rfl⟩ := List.mem_map.1 h
  rfl
theorem ent_one (e : List Int) : ∀ v ∈ e.map I, v.oneCell' = true := by
  intro v hv
  obtain ⟨z, _, rfl⟩ := List.mem_map.1 hv
  rfl
/-- An entity's cells out of the flat list. -/
theorem fl_take {l : List (List Int)} (h : Elev l) (i : Nat) (hi : i < l.length) (tl : List Value) : ((fl l ++ tl).drop (i * 11)).take 11 = (l.getD i []).map I := by
  have e : l = l.take i ++ (l.getD i [] :: l.drop (i + 1)) := by
    rw [List.getD, List.getElem?_eq_getElem hi]
    simp
  have h1 : Elev (l.take i) := fun x hx => h x (List.mem_of_mem_take hx)
  have h2 : (l.getD i []).length = 11 := h _ (by rw [List.getD, List.getElem?_eq_getElem hi]; simp)
  have h3 : (fl (l.take i)).length = i * 11 := by rw [fl_length h1, List.length_take]; congr 1; omega
  generalize l.getD i [] = x at *
  rw [e, fl_append, fl_cons, List.append_assoc, List.drop_append, ← h3, List.drop_length, Nat.sub_self, List.drop_zero, List.nil_append, List.append_assoc, List.take_append]
  have h4 : (x.map I).length = 11 := by rw [List.length_map]; exact h2
  rw [h4, Nat.sub_self, List.take_zero, List.append_nil, ← h4, List.take_length]
/-- A table's cells: the entities l, what lies behind them, how many, and the ID ahead of the next. -/
def tbL (l rest : List (List Int)) (n past : Int) : List Value := fl l ++ (fl rest ++ [I n, I past])
/-- A table lies in block b, with the entities l; the ID ahead of the next one is past. -/
def Tb (w : World) (b : Nat) (l : List (List Int)) (past : Int) : Prop := ∃ rest, Blk w b (tbL l rest (l.length : Int) past) 60 ∧ Elev l ∧ Elev rest ∧ l.length + rest.length = 40
theorem tbL_length {l rest : List (List Int)} (h1 : Elev l) (h2 : Elev rest) (h : l.length + rest.length = 40) (n past : Int) : (tbL l rest n past).length = 442 := by
  rw [tbL, List.length_append, List.length_append, fl_length h1, fl_length h2]
  simp; omega
theorem tbL_count {l rest : List (List Int)} (h1 : Elev l) (h2 : Elev rest) (h : l.length + rest.length = 40) (n past : Int) : (tbL l rest n past)[440]? = some (I n) ∧ (tbL l rest n past)[441]? = some (I past) := by
  have e1 := fl_length h1
  have e2 := fl_length h2
  rw [tbL, List.getElem?_append_right (by omega), List.getElem?_append_right (by omega), List.getElem?_append_right (by omega), List.getElem?_append_right (by omega)]
  have e3 : 440 - (fl l).length - (fl rest).length = 0 := by omega
  have e4 : 441 - (fl l).length - (fl rest).length = 1 := by omega
  rw [e3, e4]
  exact ⟨rfl, rfl⟩
theorem tbL_set {l rest : List (List Int)} (h1 : Elev l) (h2 : Elev rest) (h : l.length + rest.length = 40) (n past m : Int) : (tbL l rest n past).set 440 (I m) = tbL l rest m past ∧ (tbL l rest n past).set 441 (I m) = tbL l rest n m := by
  have e1 := fl_length h1
  have e2 := fl_length h2
  unfold tbL
  rw [List.set_append_right _ _ (by omega), List.set_append_right _ _ (by omega), List.set_append_right _ _ (by omega), List.set_append_right _ _ (by omega)]
  have e3 : 440 - (fl l).length - (fl rest).length = 0 := by omega
  have e4 : 441 - (fl l).length - (fl rest).length = 1 := by omega
  rw [e3, e4]
  exact ⟨rfl, rfl⟩
theorem Tb.few {w : World} {b : Nat} {l : List (List Int)} {past : Int} (h : Tb w b l past) : l.length ≤ 40 := by
  obtain ⟨rest, _, _, _, h⟩ := h; omega
theorem Tb.elev {w : World} {b : Nat} {l : List (List Int)} {past : Int} (h : Tb w b l past) : Elev l := by
  obtain ⟨rest, _, h, _⟩ := h; exact h
theorem Tb.lt {w : World} {b : Nat} {l : List (List Int)} {past : Int} (h : Tb w b l past) : b < w.heap.size := by
  obtain ⟨rest, h, _⟩ := h; exact h.lt
theorem Tb.count {w : World} {b : Nat} {l : List (List Int)} {past : Int} (h : Tb w b l past) : w.cell? ⟨b, 440, none⟩ = some (.int .i64 (l.length : Int)) ∧ w.cell? ⟨b, 441, none⟩ = some (.int .i64 past) ∧ w.frozen? ⟨b, 440, none⟩ = false ∧ w.frozen? ⟨b, 441, none⟩ = false := by
  obtain ⟨rest, h, h1, h2, h3⟩ := h
  have := tbL_count h1 h2 h3 (l.length : Int) past
  exact ⟨(h.cell 440).trans this.1, (h.cell 441).trans this.2, h.frozen _, h.frozen _⟩
theorem Tb.keep {w w' : World} {b : Nat} {l : List (List Int)} {past : Int} (h : Tb w b l past) (k : w'.heap[b]? = w.heap[b]?) : Tb w' b l past := by
  obtain ⟨rest, h, r⟩ := h
  exact ⟨rest, by unfold Blk at *; rw [k]; exact h, r⟩
theorem Tb.below {w w' : World} {b B : Nat} {l : List (List Int)} {past : Int} (h : Tb w b l past) (hb : Below B w w') (hB : b < B) : Tb w' b l past := h.keep (hb.block b hB)
/-- The cells of the entity at i. -/
theorem Tb.range {w : World} {b : Nat} {l : List (List Int)} {past : Int} (h : Tb w b l past) (i : Nat) (hi : i < l.length) : w.rangeAt b (i * 11) ((l.getD i []).map I) := by
  obtain ⟨rest, h, h1, h2, h3⟩ := h
  intro j v hv
  have hj : j < 11 := by
    have h4 : (l.getD i []).length = 11 := h1 _ (by rw [List.getD, List.getElem?_eq_getElem hi]; simp)
    have := (List.getElem?_eq_some_iff.1 hv).1
    rw [List.length_map, h4] at this; exact this
  rw [h.cell, ← hv, ← fl_take h1 i hi (fl rest ++ [I (l.length : Int), I past]), List.getElem?_take, if_pos hj, List.getElem?_drop]
  rfl
/-- What is not block b, and lay there, is as it was. -/
structure Only (b : Nat) (w w' : World) : Prop where
  os : w'.os = w.os
  tape : w'.tape = w.tape
  output : w'.output = w.output
  size : w.heap.size ≤ w'.heap.size
  block : ∀ k, k ≠ b → k < w.heap.size → w'.heap[k]? = w.heap[k]?
theorem Only.refl (b : Nat) (w : World) : Only b w w := ⟨rfl, rfl, rfl, Nat.le_refl _, fun _ _ _ => rfl⟩
theorem Only.trans {b : Nat} {w w' w'' : World} (h : Only b w w') (k : Only b w' w'') : Only b w w'' :=
  ⟨k.os.trans h.os, k.tape.trans h.tape, k.output.trans h.output, Nat.le_trans h.size k.size, fun j hj hl => (k.block j hj (Nat.lt_of_lt_of_le hl h.size)).trans (h.block j hj hl)⟩
theorem Below.only {w w' : World} (h : Below w.heap.size w w') (b : Nat) : Only b w w' := ⟨h.os, h.tape, h.output, h.size, fun k _ hk => h.block k hk⟩
theorem Only.below {b B : Nat} {a w w' : World} (h : Below B a w) (k : Only b w w') (hb : B ≤ b) (hB : B ≤ w.heap.size) : Below B a w' :=
  ⟨k.os.trans h.os, k.tape.trans h.tape, k.output.trans h.output, Nat.le_trans h.size k.size, fun j hj => (k.block j (by omega) (by omega)).trans (h.block j hj)⟩
theorem Only.blk {b c : Nat} {w w' : World} {l : List Value} {t : TypeId} (k : Only b w w') (h : Blk w c l t) (hn : c ≠ b) : Blk w' c l t := by
  have hl := Blk.lt h
  unfold Blk at *
  rw [k.block c hn hl]; exact h
theorem Only.tb {b c : Nat} {w w' : World} {l : List (List Int)} {past : Int} (k : Only b w w') (h : Tb w c l past) (hn : c ≠ b) : Tb w' c l past := h.keep (k.block c hn h.lt)
theorem Only.set (b j : Nat) (w : World) (v : Value) : Only b w (w.setCell ⟨b, j, none⟩ v) :=
  ⟨rfl, rfl, rfl, by simp, fun k hk _ => Below.heap_setCell _ _ _ _ hk⟩
theorem Only.sets (b o : Nat) (w : World) (vs : List Value) : Only b w (w.setCells b o vs) := by
  obtain ⟨h1, h2, h3⟩ := misc_setCells b vs o w
  exact ⟨h1, h2, h3, by rw [size_setCells]; exact Nat.le_refl _, fun k hk _ => heap_setCells b vs o w k hk⟩
/-- A pointer to a table. -/
def P (b : Nat) : Value := .pointer (some ⟨b, 0, none⟩)
/-- An entity as a value. -/
def E (e : List Int) : Value := .agg (e.map I).toArray
theorem zero60 : (Try.prog.info? 60).map (fun i => (i.zero, i.size)) = some (some (.agg (List.replicate 442 (Value.int .i64 0)).toArray), 442) := by kernel_rfl
theorem zeroOf {P : Program} {t : TypeId} {v : Value} {n : Nat} (h : (P.info? t).map (fun i => (i.zero, i.size)) = some (some v, n)) : ∀ w, (zeroValue t).run P w = .ok v w := by
  cases hq : P.info? t with
  | none => simp [hq] at h
  | some i =>
    simp [hq] at h
    exact fun w => by simp [zeroValue, typeInfo, hq, h.1]
/-- The zero table's cells. -/
def zT : List Value := tbL [] (List.replicate 40 (List.replicate 11 0)) 0 0
theorem zT_eq : zT = List.replicate 442 (Value.int .i64 0) := by kernel_rfl
theorem zv60 (w : World) : (zeroValue 60).run Try.prog w = .ok (.agg zT.toArray) w := by rw [zT_eq]; exact zeroOf zero60 w
theorem Tb.zero {w : World} {b : Nat} (h : Blk w b zT 60) : Tb w b [] 0 :=
  ⟨List.replicate 40 (List.replicate 11 0), h, (fun _ h => by cases h), (fun e h => by rw [List.eq_of_mem_replicate h]; rfl), by simp⟩
attribute [local go_sem ↓] zv60
set_option maxHeartbeats 1000000 in
theorem new_any (w : World) : Calls Try.prog 8 #[] w fun e w' => e = .returned (P w.heap.size) ∧ Tb w' w.heap.size [] 0 ∧ Below w.heap.size w w' := by
  unfold P
  go_enter Try.func8, Try.ntmps8
  go_wp2
  go_ret
  exact ⟨rfl, Tb.zero (Blk.new _ _ _), (Below.refl _ _).alloc (Nat.le_refl _) _⟩
set_option maxHeartbeats 1000000 in
theorem nextNil_any (w : World) : Calls Try.prog 11 #[.pointer none] w fun e w' => e = .returned (.int .i64 0) ∧ w' = w := by
  go_enter Try.func11, Try.ntmps11
  go_wp2
  go_ret
  exact ⟨rfl, rfl⟩
set_option maxHeartbeats 1000000 in
theorem next_any (b : Nat) (l : List (List Int)) (past : Int) (w : World) (h : Tb w b l past) : Calls Try.prog 11 #[P b] w fun e w' => e = .returned (.int .i64 (wrap64 (past + 1))) ∧ w' = w := by
  have hc := h.count.2.1
  unfold P
  clear h
  go_enter Try.func11, Try.ntmps11
  go_wp2
  go_ret
  exact ⟨rfl, rfl⟩
set_option maxHeartbeats 1000000 in
theorem allNil_any (w : World) : Calls Try.prog 29 #[.pointer none] w fun e w' => e = .returned (.slice none 0 0) ∧ w' = w := by
  go_enter Try.func29, Try.ntmps29
  go_wp2
  go_ret
  exact ⟨rfl, rfl⟩
set_option maxHeartbeats 1000000 in
theorem all_any (b : Nat) (l : List (List Int)) (past : Int) (w : World) (h : Tb w b l past) : Calls Try.prog 29 #[P b] w fun e w' => e = .returned (.slice (some ⟨b, 0, none⟩) l.length 40) ∧ ∃ k, w' = w.drewN k := by
  have hc := h.count.1
  have hn := h.few
  have hn' : (l.length : Int) ≤ 40 := by omega
  have hn0 : (0 : Int) ≤ (l.length : Int) := by omega
  unfold P
  clear h
  generalize l.length = n at *
  go_enter Try.func29, Try.ntmps29
  go_upto_region 3 with fail
  go_quiet (fail)
  go_wp2
  go_ret
  exact ⟨rfl, nq, rfl⟩
end Go.Proofs.Ytdagkeklfhlcnaa
