/- Rows of elements of any kind: each is laid in k cells by a function. What is handed in, what a call itself made, append, make. -/
import Derived.Test.YtnilgnnlobiojaaOwn
namespace Go.Proofs.Ytnilgnnlobiojaa
open Go.RowKit
section
variable {α : Type}
/-- Each element is laid in k cells. -/
structure Lay (enc : α → List Value) (k : Nat) : Prop where
  pos : 0 < k
  len : ∀ x, (enc x).length = k
  one : ∀ x, ∀ v ∈ enc x, v.oneCell' = true
def flatE (enc : α → List Value) (xs : List α) : List Value := xs.flatMap enc
theorem flatE_append (enc : α → List Value) (xs ys : List α) : flatE enc (xs ++ ys) = flatE enc xs ++ flatE enc ys := by simp [flatE]
theorem flatE_length {enc : α → List Value} {k : Nat} (h : Lay enc k) : ∀ xs : List α, (flatE enc xs).length = xs.length * k
  | [] => by simp [flatE]
  | x :: xs => by
    have := flatE_length h xs
    unfold flatE at *
    rw [List.flatMap_cons, List.length_append, h.len, this, List.length_cons, Nat.succ_mul]; omega
theorem flatE_get {enc : α → List Value} {k : Nat} (h : Lay enc k) : ∀ (xs : List α) (i : Nat) (hi : i < xs.length) (j : Nat), j < k → (flatE enc xs)[i * k + j]? = (enc xs[i])[j]?
  | [], _, hi, _, _ => absurd hi (Nat.not_lt_zero _)
  | x :: xs, 0, _, j, hj => by
    unfold flatE
    rw [List.flatMap_cons, Nat.zero_mul, Nat.zero_add, List.getElem?_append_left (by rw [h.len]; exact hj)]
    rfl
  | x :: xs, i + 1, hi, j, hj => by
    have ih := flatE_get h xs i (by simpa using hi) j hj
    unfold flatE at *
    rw [List.flatMap_cons, List.getElem?_append_right (by rw [h.len, Nat.succ_mul]; omega), h.len, show (i + 1) * k + j - k = i * k + j by rw [Nat.succ_mul]; omega, ih]
    rfl
theorem flatE_one {enc : α → List Value} {k : Nat} (h : Lay enc k) (xs : List α) : ∀ v ∈ flatE enc xs, v.oneCell' = true := by
  intro v hv
  obtain ⟨x, _, hx⟩ := List.mem_flatMap.1 hv
  exact h.one x v hx
/-- v is a slice of the elements xs. -/
def RowAt (enc : α → List Value) (k : Nat) (w : World) (v : Value) (xs : List α) : Prop :=
  ∃ p cap, v = .slice p xs.length cap ∧ xs.length ≤ cap ∧ (xs ≠ [] → ∃ sb so, p = some ⟨sb, so, none⟩ ∧ ∀ i (hi : i < xs.length) j u, (enc xs[i])[j]? = some u → w.cell? ⟨sb, so + i * k + j, none⟩ = some u)
theorem RowAt.keep {enc : α → List Value} {k : Nat} {w w' : World} {v : Value} {xs : List α} (h : RowAt enc k w v xs) (hb : ∀ ad u, w.cell? ad = some u → w'.cell? ad = some u) : RowAt enc k w' v xs := by
  obtain ⟨p, cap, rfl, hc, h⟩ := h
  refine ⟨p, cap, rfl, hc, fun hn => ?_⟩
  obtain ⟨sb, so, rfl, hcell⟩ := h hn
  exact ⟨sb, so, rfl, fun i hi j u hu => hb _ _ (hcell i hi j u hu)⟩
theorem RowAt.below {enc : α → List Value} {k : Nat} {w w' : World} {v : Value} {xs : List α} (h : RowAt enc k w v xs) (hb : Below w.heap.size w w') : RowAt enc k w' v xs :=
  h.keep fun ad u hu => by rw [hb.cell (lt_of_cell hu)]; exact hu
theorem RowAt.form {enc : α → List Value} {k : Nat} {w : World} {v : Value} {xs : List α} (h : RowAt enc k w v xs) : ∃ p cap, v = .slice p xs.length cap := by
  obtain ⟨p, cap, rfl, _⟩ := h
  exact ⟨p, cap, rfl⟩
/-- Where the cells of the element i lie. -/
theorem RowAt.pos {enc : α → List Value} {k : Nat} (hl : Lay enc k) {w : World} {p : Option Addr} {n cap : Nat} {xs : List α} (h : RowAt enc k w (.slice p n cap) xs) (i : Nat) (hi : i < n) : ∃ (hx : i < xs.length) (sb so : Nat), p = some ⟨sb, so, none⟩ ∧ sb < w.heap.size ∧ ∀ j u, (enc xs[i])[j]? = some u → w.cell? ⟨sb, so + i * k + j, none⟩ = some u := by
  obtain ⟨p', cap', e, hc, h⟩ := h
  simp only [Value.slice.injEq] at e
  obtain ⟨rfl, rfl, rfl⟩ := e
  obtain ⟨sb, so, rfl, hcell⟩ := h (fun e => by rw [e] at hi; cases hi)
  refine ⟨hi, sb, so, rfl, ?_, hcell i hi⟩
  have h1 : 0 < (enc xs[i]).length := by rw [hl.len]; exact hl.pos
  exact lt_of_cell (hcell i hi 0 _ (List.getElem?_eq_getElem h1))
theorem RowAt.nil (enc : α → List Value) (k : Nat) (w : World) : RowAt enc k w (.slice none 0 0) [] := ⟨none, 0, rfl, Nat.le_refl _, fun h => absurd rfl h⟩
/-- One element in a new row. -/
theorem RowAt.one {enc : α → List Value} {k : Nat} (w : World) (x : α) (T : TypeId) (cs : Array Value) (hcs : cs = (enc x).toArray) : RowAt enc k (w.alloc (.cells cs T)) (.slice (some ⟨w.heap.size, 0, none⟩) 1 1) [x] := by
  refine ⟨_, 1, rfl, Nat.le_refl _, fun _ => ⟨w.heap.size, 0, rfl, fun i hi j u hu => ?_⟩⟩
  obtain rfl : i = 0 := by simpa using hi
  rw [cell_of_row _ _ _ _ _ _ (heap_alloc_last w _), hcs, show 0 + 0 * k + j = j by omega]
  simpa using hu
/-- v is the call's own slice (its block is base or later), and holds the elements xs. -/
def OwnR (enc : α → List Value) (T : TypeId) (k : Nat) (w : World) (base : Nat) (v : Value) (xs : List α) : Prop := w.ownsRow base T k v xs.length (flatE enc xs)
theorem OwnR.nil (enc : α → List Value) (T : TypeId) (k : Nat) (w : World) (base : Nat) : OwnR enc T k w base (.slice none 0 0) [] := ⟨by simp [flatE], Or.inl ⟨rfl, rfl⟩⟩
theorem OwnR.form {enc : α → List Value} {T : TypeId} {k : Nat} {w : World} {base : Nat} {v : Value} {xs : List α} (h : OwnR enc T k w base v xs) : ∃ p cap, v = .slice p xs.length cap := by
  obtain ⟨_, ⟨rfl, hn⟩ | ⟨g, cap, cur, rfl, _⟩⟩ := h
  · exact ⟨_, _, by rw [hn]⟩
  · exact ⟨_, _, rfl⟩
theorem OwnR.row {enc : α → List Value} {T : TypeId} {k : Nat} (hl : Lay enc k) {w : World} {base : Nat} {v : Value} {xs : List α} (h : OwnR enc T k w base v xs) : RowAt enc k w v xs := by
  obtain ⟨_, ⟨rfl, hn⟩ | ⟨g, cap, cur, rfl, hg, hh, hc, hm, hcs, ht⟩⟩ := h
  · exact ⟨.none, 0, by rw [hn], by omega, fun hne => absurd (List.eq_nil_of_length_eq_zero hn) hne⟩
  · refine ⟨_, cap, rfl, hc, fun _ => ⟨g, 0, rfl, fun i hi j u hu => ?_⟩⟩
    have hj : j < k := by have := (List.getElem?_eq_some_iff.1 hu).1; rw [hl.len] at this; exact this
    have hf := flatE_get hl xs i hi j hj
    have hlt : i * k + j < xs.length * k := by
      have := Nat.mul_le_mul_right k (show i + 1 ≤ xs.length from hi)
      rw [Nat.succ_mul] at this; omega
    rw [Nat.zero_add, cell_of_row _ _ _ _ _ _ hh, ← Array.getElem?_toList]
    have e : (cur.toList.take (xs.length * k))[i * k + j]? = (flatE enc xs)[i * k + j]? := by rw [ht]
    rw [List.getElem?_take, if_pos hlt] at e
    rw [e, hf]; exact hu
theorem OwnR.block {enc : α → List Value} {T : TypeId} {k : Nat} {w : World} {base : Nat} {v : Value} {xs : List α} (h : OwnR enc T k w base v xs) : ∀ b, v.ownBlock = some b → base ≤ b ∧ b < w.heap.size := by
  intro b hb
  obtain ⟨_, ⟨rfl, hn⟩ | ⟨g, cap, cur, rfl, hg, hh, _⟩⟩ := h
  · simp [Value.ownBlock] at hb
  · simp [Value.ownBlock] at hb
    subst hb
    exact ⟨hg, (Array.getElem?_eq_some_iff.1 hh).1⟩
theorem OwnR.stay {enc : α → List Value} {T : TypeId} {k : Nat} {w w' : World} {base : Nat} {v : Value} {xs : List α} (h : OwnR enc T k w base v xs) (hs : ∀ b, v.ownBlock = some b → w'.heap[b]? = w.heap[b]?) : OwnR enc T k w' base v xs := by
  obtain ⟨h1, ⟨rfl, hn⟩ | ⟨g, cap, cur, rfl, hg, hh, r⟩⟩ := h
  · exact ⟨h1, Or.inl ⟨rfl, hn⟩⟩
  · exact ⟨h1, Or.inr ⟨g, cap, cur, rfl, hg, by rw [hs g rfl]; exact hh, r⟩⟩
theorem OwnR.below {enc : α → List Value} {T : TypeId} {k : Nat} {w w' : World} {base : Nat} {v : Value} {xs : List α} (h : OwnR enc T k w base v xs) (hb : Below w.heap.size w w') : OwnR enc T k w' base v xs :=
  h.stay fun b hk => hb.block b (h.block b hk).2
theorem OwnR.mono {enc : α → List Value} {T : TypeId} {k : Nat} {w : World} {base B : Nat} {v : Value} {xs : List α} (h : OwnR enc T k w B v xs) (hb : base ≤ B) : OwnR enc T k w base v xs := by
  obtain ⟨h1, ⟨rfl, hn⟩ | ⟨g, cap, cur, rfl, hg, r⟩⟩ := h
  · exact ⟨h1, Or.inl ⟨rfl, hn⟩⟩
  · exact ⟨h1, Or.inr ⟨g, cap, cur, rfl, by omega, r⟩⟩
theorem Gro.belowR {a b : World} {u v : Value} {enc : α → List Value} {T : TypeId} {k : Nat} {xs : List α} {base : Nat} (h : Gro a u b v) (ho : OwnR enc T k a base u xs) (hb : base ≤ a.heap.size) : Below base a b :=
  ⟨h.os, h.tape, h.output, h.size, fun j hj => h.block j (by omega) (fun he => by have := (ho.block j he).1; omega)⟩
theorem flatE_set {enc : α → List Value} {k : Nat} (h : Lay enc k) : ∀ (xs : List α) (i : Nat) (hi : i < xs.length) (j : Nat) (u : Value) (x' : α), j < k → enc x' = (enc xs[i]).set j u → flatE enc (xs.set i x') = (flatE enc xs).set (i * k + j) u
  | [], _, hi, _, _, _, _, _ => absurd hi (Nat.not_lt_zero _)
  | x :: xs, 0, _, j, u, x', hj, he => by
    unfold flatE
    rw [List.set_cons_zero, List.flatMap_cons, List.flatMap_cons, he, Nat.zero_mul, Nat.zero_add, List.set_append_left _ _ (by rw [h.len]; exact hj)]
    rfl
  | x :: xs, i + 1, hi, j, u, x', hj, he => by
    have ih := flatE_set h xs i (by simpa using hi) j u x' hj he
    unfold flatE at *
    rw [List.set_cons_succ, List.flatMap_cons, List.flatMap_cons, ih, List.set_append_right _ _ (by rw [h.len, Nat.succ_mul]; omega), h.len, show (i + 1) * k + j - k = i * k + j by rw [Nat.succ_mul]; omega]
/-- The place of an element of the call's own row, free to be written. -/
theorem OwnR.at {enc : α → List Value} {T : TypeId} {k : Nat} (hl : Lay enc k) {w : World} {base : Nat} {p : Option Addr} {n cap : Nat} {xs : List α} (h : OwnR enc T k w base (.slice p n cap) xs) (i : Nat) (hi : i < n) : ∃ (hx : i < xs.length) (g : Nat), p = some ⟨g, 0, none⟩ ∧ base ≤ g ∧ g < w.heap.size ∧ (∀ j, w.frozen? ⟨g, j, none⟩ = false) ∧ ∀ j u, (enc xs[i])[j]? = some u → w.cell? ⟨g, i * k + j, none⟩ = some u := by
  obtain ⟨hx, sb, so, rfl, hsb, hcell⟩ := RowAt.pos hl (h.row hl) i hi
  obtain ⟨_, ⟨e, _⟩ | ⟨g, cap', cur, e, hg, hh, _⟩⟩ := h
  · cases e
  · simp only [Value.slice.injEq, Option.some.injEq, Addr.mk.injEq] at e
    obtain ⟨⟨rfl, rfl, -⟩, rfl, rfl⟩ := e
    exact ⟨hx, sb, rfl, hg, hsb, fun j => by simp [World.frozen?, hh], fun j u hu => by have := hcell j u hu; rwa [Nat.zero_add] at this⟩
/-- One cell of the call's own row is written. -/
theorem OwnR.set {enc : α → List Value} {T : TypeId} {k : Nat} (hl : Lay enc k) {w : World} {base : Nat} {g n cap : Nat} {xs : List α} (h : OwnR enc T k w base (.slice (some ⟨g, 0, none⟩) n cap) xs) (i : Nat) (hi : i < xs.length) (j : Nat) (hj : j < k) (u : Value) (x' : α) (he : enc x' = (enc xs[i]).set j u) : OwnR enc T k (w.setCell ⟨g, i * k + j, none⟩ u) base (.slice (some ⟨g, 0, none⟩) n cap) (xs.set i x') := by
  obtain ⟨h1, ⟨e, _⟩ | ⟨g', cap', cur, e, hg, hh, hc, hm, hcs, ht⟩⟩ := h
  · cases e
  · simp only [Value.slice.injEq, Option.some.injEq, Addr.mk.injEq] at e
    obtain ⟨⟨rfl, -, -⟩, rfl, rfl⟩ := e
    unfold OwnR World.ownsRow
    rw [List.length_set]
    refine ⟨by rw [flatE_length hl, List.length_set], Or.inr ⟨g, cap, cur.setIfInBounds (i * k + j) u, rfl, hg, ?_, hc, hm, by simp [hcs], ?_⟩⟩
    · simp [World.setCell, Array.getElem?_modify, hh]
    · rw [flatE_set hl xs i hi j u x' hj he, ← ht, Array.toList_setIfInBounds, List.take_set]
/-- Elements are laid behind the call's own row. -/
theorem wpL_appendR {enc : α → List Value} {T : TypeId} {k : Nat} (hl : Lay enc k) {ops : Array Oper} {rest : List Oper} {Q : Exit → Act → World → Prop} {a : Act} {w : World} {dd : Option Tmp} {s x : Operand} {tt : TypeId} {pos : String} {af : Array Edge} {S : TypeId} {z : Value} {by_ : Nat}
    (hS : Try.prog.underlying S = some (.slice T)) (hi : (Try.prog.info? T).map (fun i => (i.zero, i.size, i.bytes)) = some (some z, k, by_)) (hz : z.cells.size = k) (hby : by_ ≤ 1000) (base : Nat) (v sv : Value) (xs ys : List α) (N : Nat) (hne : ys ≠ []) (hN : xs.length + ys.length = N)
    (hs : a.eval s = v) (hx : a.eval x = sv) (ho : OwnR enc T k w base v xs) (hb : RowAt enc k w sv ys) (hsz : N ≤ 1000000) (hbase : base ≤ w.heap.size)
    (h : ∀ p cap w', OwnR enc T k w' base (.slice p N cap) (xs ++ ys) → Gro w v w' (.slice p N cap) → wpList Try.prog ops Q rest (a.put dd (.slice p N cap)) w') :
    wpList Try.prog ops Q ({ dst := dd, op := .call { callee := .builtin .append, args := #[s, x], argTypes := #[S, S] }, type := tt, pos := pos, after := af, guard := .none } :: rest) a w := by
  subst hN
  obtain ⟨i, hi, hz0, hz1, hz2⟩ := info_parts hi
  obtain ⟨p, cap, rfl, hc, hcell⟩ := hb
  obtain ⟨sb, so, rfl, hcl⟩ := hcell hne
  have hprod : (xs.length + ys.length) * by_ ≤ 1000000 * 1000 := Nat.mul_le_mul hsz hby
  refine wpList_append_own_at w rfl s x S rfl base T i z k by_ hS hi hz0 hz1 hz2 hz hl.pos v xs.length (flatE enc xs) hs ho ⟨sb, so, .none⟩ ys.length cap (flatE enc ys) hx (flatE_length hl ys) ?_ (flatE_one hl ys) (by simp only [maxLen]; omega) (by omega) hbase ?_
  · intro j u hu
    have hj : j < ys.length * k := by have := (List.getElem?_eq_some_iff.1 hu).1; rw [flatE_length hl] at this; exact this
    have hq : j / k < ys.length := Nat.div_lt_of_lt_mul (by rw [Nat.mul_comm]; exact hj)
    have hr : j % k < k := Nat.mod_lt _ hl.pos
    have e : j / k * k + j % k = j := by rw [Nat.mul_comm]; exact Nat.div_add_mod j k
    have hf := flatE_get hl ys (j / k) hq (j % k) hr
    rw [e, hu] at hf
    have := hcl (j / k) hq (j % k) u hf.symm
    rw [Addr.add_mid, ← e, ← Nat.add_assoc]; exact this
  · intro v' w' ho' hg hnil hat
    have ho'' : OwnR enc T k w' base v' (xs ++ ys) := by unfold OwnR; rw [flatE_append, List.length_append]; exact ho'
    obtain ⟨p', cap', rfl⟩ := ho''.form
    rw [List.length_append] at ho'' hat ⊢
    refine h p' cap' w' ho'' ⟨hg.os, hg.tape, hg.output, hg.size, fun b hb hn => hg.block b hb (fun he => hn he.symm), ?_⟩
    rcases hat with hat | hat
    · exact Or.inl hat
    · exact Or.inr (fun b hb => by rw [hat] at hb; cases hb; exact Nat.le_refl _)
/-- make([]T, 0, n). -/
theorem wpL_make0 {enc : α → List Value} {T : TypeId} {k : Nat} {ops : Array Oper} {rest : List Oper} {Q : Exit → Act → World → Prop} {a : Act} {w : World} {dd : Option Tmp} {l c : Operand} {tt : TypeId} {pos : String} {af : Array Edge} {S : TypeId} {z : Value} {by_ : Nat}
    (hS : Try.prog.underlying S = some (.slice T)) (hi : (Try.prog.info? T).map (fun i => (i.zero, i.size, i.bytes)) = some (some z, k, by_)) (hby : by_ ≤ 1000) (M : Nat) (hM : M ≤ 1000000)
    (hl : a.eval l = .int .i64 0) (hc : a.eval c = .int .i64 (M : Int))
    (h : ∀ w1, OwnR enc T k w1 w.heap.size (.slice (some ⟨w.heap.size, 0, none⟩) 0 M) [] → Below w.heap.size w w1 → wpList Try.prog ops Q rest (a.put dd (.slice (some ⟨w.heap.size, 0, none⟩) 0 M)) w1) :
    wpList Try.prog ops Q ({ dst := dd, op := .makeSlice S l c, type := tt, pos := pos, after := af, guard := .none } :: rest) a w := by
  obtain ⟨i, hi, hz0, hz1, hz2⟩ := info_parts hi
  have hprod : by_ * M ≤ 1000 * 1000000 := Nat.mul_le_mul hby hM
  refine wpList_make_own w rfl l c S rfl w.heap.size T i z k hS hi hz0 hz1 .i64 .i64 _ M hl hc rfl (by rw [hz2]; omega) (by simp only [maxLen]; omega) (Nat.le_refl _) ?_
  intro w1 ho hg
  exact h w1 ho ⟨hg.os, hg.tape, hg.output, hg.size, fun b hb => hg.block b hb (by simp)⟩
end
end Go.Proofs.Ytnilgnnlobiojaa
