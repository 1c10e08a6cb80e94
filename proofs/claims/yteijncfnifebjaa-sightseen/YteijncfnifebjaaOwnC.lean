/- Rows of cells that a call itself made, and append onto them. -/
import Derived.Test.YteijncfnifebjaaLines
import Derived.Test.YteijncfnifebjaaSmall
namespace Go.Proofs.Yteijncfnifebjaa
open Go.RowKit
/-- Cells, laid flat. -/
def flat (cs : List (Int × Int)) : List Value := cs.flatMap fun c => [.int .i64 c.1, .int .i64 c.2]
theorem flat_length : ∀ cs : List (Int × Int), (flat cs).length = cs.length * 2
  | [] => rfl
  | c :: cs => by
    have := flat_length cs
    simp only [flat, List.flatMap_cons, List.length_append, List.length_cons, List.length_nil] at *
    omega
theorem flat_get : ∀ (cs : List (Int × Int)) (i : Nat), i < cs.length → (flat cs)[i * 2]? = some (.int .i64 (cs.getD i (0, 0)).1) ∧ (flat cs)[i * 2 + 1]? = some (.int .i64 (cs.getD i (0, 0)).2)
  | c :: cs, 0, _ => ⟨rfl, rfl⟩
  | c :: cs, i + 1, h => by
    have ih := flat_get cs i (by simpa using h)
    have e1 : (i + 1) * 2 = i * 2 + 1 + 1 := by omega
    rw [e1]
    have e2 : ∀ j, (flat (c :: cs))[j + 1 + 1]? = (flat cs)[j]? := fun j => rfl
    exact ⟨(e2 _).trans ih.1, (e2 _).trans ih.2⟩
theorem flat_one (cs : List (Int × Int)) : ∀ v ∈ flat cs, v.oneCell' = true := by
  intro v hv
  obtain ⟨c, _, h⟩ := List.mem_flatMap.1 hv
  rcases List.mem_cons.1 h with rfl | h
  · rfl
  · rcases List.mem_cons.1 h with rfl | h
    · rfl
    · cases h
/-- v is the call's own slice (its block is base or later), and holds the cells cs. -/
def OwnC (w : World) (base : Nat) (v : Value) (cs : List (Int × Int)) : Prop := w.ownsRow base 27 2 v cs.length (flat cs)
theorem OwnC.nil (w : World) (base : Nat) : OwnC w base (.slice none 0 0) [] := ⟨rfl, Or.inl ⟨rfl, rfl⟩⟩
theorem OwnC.form {w : World} {base : Nat} {v : Value} {xs : List (Int × Int)} (h : OwnC w base v xs) : ∃ p cap, v = .slice p xs.length cap := by
  obtain ⟨_, ⟨rfl, hn⟩ | ⟨g, cap, cur, rfl, _⟩⟩ := h
  · exact ⟨_, _, by rw [hn]⟩
  · exact ⟨_, _, rfl⟩
theorem OwnC.cells {w : World} {base : Nat} {v : Value} {xs : List (Int × Int)} (h : OwnC w base v xs) : CellsAt w v xs := by
  obtain ⟨_, ⟨rfl, hn⟩ | ⟨g, cap, cur, rfl, hg, hh, hc, hm, hcs, ht⟩⟩ := h
  · exact ⟨.none, 0, by rw [hn], fun hne => absurd (List.eq_nil_of_length_eq_zero hn) hne⟩
  · refine ⟨_, cap, rfl, fun _ => ⟨g, 0, rfl, fun i hi => ?_⟩⟩
    have hf := flat_get xs i hi
    rw [Nat.zero_add, cell_of_row _ _ _ _ _ _ hh, cell_of_row _ _ _ _ _ _ hh]
    have e1 : (cur.toList.take (xs.length * 2))[i * 2]? = (flat xs)[i * 2]? := by rw [ht]
    have e2 : (cur.toList.take (xs.length * 2))[i * 2 + 1]? = (flat xs)[i * 2 + 1]? := by rw [ht]
    rw [List.getElem?_take, if_pos (by omega), Array.getElem?_toList] at e1 e2
    exact ⟨e1.trans hf.1, e2.trans hf.2⟩
theorem OwnC.block {w : World} {base : Nat} {v : Value} {xs : List (Int × Int)} (h : OwnC w base v xs) : ∀ k, v.ownBlock = some k → base ≤ k ∧ k < w.heap.size := by
  intro k hk
  obtain ⟨_, ⟨rfl, hn⟩ | ⟨g, cap, cur, rfl, hg, hh, _⟩⟩ := h
  · simp [Value.ownBlock] at hk
  · simp [Value.ownBlock] at hk
    subst hk
    exact ⟨hg, (Array.getElem?_eq_some_iff.1 hh).1⟩
theorem OwnC.stay {w w' : World} {base : Nat} {v : Value} {xs : List (Int × Int)} (h : OwnC w base v xs) (hs : ∀ k, v.ownBlock = some k → w'.heap[k]? = w.heap[k]?) : OwnC w' base v xs := by
  obtain ⟨h1, ⟨rfl, hn⟩ | ⟨g, cap, cur, rfl, hg, hh, r⟩⟩ := h
  · exact ⟨h1, Or.inl ⟨rfl, hn⟩⟩
  · exact ⟨h1, Or.inr ⟨g, cap, cur, rfl, hg, by rw [hs g rfl]; exact hh, r⟩⟩
theorem OwnC.below {w w' : World} {base : Nat} {v : Value} {xs : List (Int × Int)} (h : OwnC w base v xs) (hb : Below w.heap.size w w') : OwnC w' base v xs :=
  h.stay fun k hk => hb.block k (h.block k hk).2
theorem Gro.belowC {a b : World} {u v : Value} {xs : List (Int × Int)} {base : Nat} (h : Gro a u b v) (ho : OwnC a base u xs) (hb : base ≤ a.heap.size) : Below base a b :=
  ⟨h.os, h.tape, h.output, h.size, fun k hk => h.block k (by omega) (fun he => by have := (ho.block k he).1; omega)⟩
/-- One cell more, out of a new block that holds it. -/
theorem wpL_appendC {ops : Array Oper} {rest : List Oper} {Q : Exit → Act → World → Prop} {a : Act} {w : World} {dd : Option Tmp} {s x : Operand} {tt : TypeId} {pos : String} {af : Array Edge} (base : Nat) (v : Value) (sb : Nat) (xs : List (Int × Int)) (c : Int × Int)
    (hs : a.eval s = v) (hx : a.eval x = .slice (some ⟨sb, 0, none⟩) 1 1) (ho : OwnC w base v xs) (hb : Blk w sb [.int .i64 c.1, .int .i64 c.2] 27) (hsz : xs.length ≤ 1000000) (hbase : base ≤ w.heap.size)
    (h : ∀ v' w', OwnC w' base v' (xs ++ [c]) → Gro w v w' v' → wpList Try.prog ops Q rest (a.put dd v') w') :
    wpList Try.prog ops Q ({ dst := dd, op := .call { callee := .builtin .append, args := #[s, x], argTypes := #[68, 68] }, type := tt, pos := pos, after := af, guard := .none } :: rest) a w := by
  obtain ⟨i, hi, hz0, hz1, hz2⟩ := info_parts info27
  refine wpList_append_own_at w rfl s x 68 rfl base 27 i (.agg #[.int .i64 0, .int .i64 0]) 2 16 Try.underlying68 hi hz0 hz1 hz2 rfl (by omega) v xs.length (flat xs) hs ho ⟨sb, 0, .none⟩ 1 1 (flat [c]) hx rfl ?_ (flat_one [c]) (by simp only [maxLen]; omega) (by omega) hbase ?_
  · intro j u hu
    rw [Addr.add_mid, Nat.zero_add, hb.cell j]
    exact hu
  · intro v' w' ho' hg hnil hat
    have ho'' : OwnC w' base v' (xs ++ [c]) := by
      unfold OwnC
      have e : flat (xs ++ [c]) = flat xs ++ flat [c] := by simp [flat]
      rw [e, List.length_append]; exact ho'
    refine h v' w' ho'' ⟨hg.os, hg.tape, hg.output, hg.size, fun k hk hn => hg.block k hk (fun he => hn he.symm), ?_⟩
    rcases hat with hat | hat
    · exact Or.inl hat
    · exact Or.inr (fun k hk => by rw [hat] at hk; cases hk; exact Nat.le_refl _)
end Go.Proofs.Yteijncfnifebjaa
