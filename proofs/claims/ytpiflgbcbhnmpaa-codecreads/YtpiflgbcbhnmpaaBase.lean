/- Slices of bytes (a byte is a natural number here), those that a call itself made, and append onto them. -/
import Derived.Test.YtpiflgbcbhnmpaaProg
import Derived.WalkKit
import Derived.Below
import Derived.Deep.MidRow
import Derived.Deep.WholeRow
import Derived.Deep.Draws
import Derived.RegionTactic
import Derived.BigQuiet
import Derived.Deep.QuietTactic
import Derived.Laws.AppendOwnNone
namespace Go.Proofs.Ytpiflgbcbhnmpaa
open Go.RowKit

/-- A byte as a value. -/
def By (x : Nat) : Value := .int .u8 (x : Int)
theorem mapBy_one (l : List Nat) : ∀ v ∈ l.map By, v.oneCell' = true := by
  intro v hv
  obtain ⟨x, _, rfl⟩ := List.mem_map.1 hv
  rfl
theorem Below.drewN {B : Nat} {a w : World} (h : Below B a w) (n : Nat) : Below B a (w.drewN n) := ⟨h.os, h.tape, h.output, h.size, h.block⟩
theorem lt_of_cell {w : World} {p : Addr} {v : Value} (h : w.cell? p = some v) : p.block < w.heap.size := by
  rcases Nat.lt_or_ge p.block w.heap.size with h1 | h1
  · exact h1
  · simp [World.cell?, h1] at h
/-- v is a slice of the bytes bs. -/
def BytesAt (w : World) (v : Value) (bs : List Nat) : Prop :=
  ∃ p cap, v = .slice p bs.length cap ∧ bs.length ≤ cap ∧ (p = none → cap = 0) ∧ (bs ≠ [] → ∃ sb so, p = some ⟨sb, so, none⟩ ∧ ∀ i, i < bs.length → w.cell? ⟨sb, so + i, none⟩ = some (By (bs.getD i 0)))
theorem BytesAt.below {w w' : World} {v : Value} {bs : List Nat} (h : BytesAt w v bs) (hb : Below w.heap.size w w') : BytesAt w' v bs := by
  obtain ⟨p, cap, rfl, hc, hz, h⟩ := h
  refine ⟨p, cap, rfl, hc, hz, fun hn => ?_⟩
  obtain ⟨sb, so, rfl, hcell⟩ := h hn
  exact ⟨sb, so, rfl, fun i hi => by rw [hb.cell (p := ⟨sb, so + i, none⟩) (lt_of_cell (hcell i hi))]; exact hcell i hi⟩
theorem bytes_nil (w : World) : BytesAt w (.slice none 0 0) [] := ⟨_, 0, rfl, by simp, fun _ => rfl, fun h => absurd rfl h⟩
/-- What stands behind the first i bytes. -/
theorem BytesAt.drop {w : World} {sb so n cap : Nat} {bs : List Nat} (h : BytesAt w (.slice (some ⟨sb, so, none⟩) n cap) bs) (i : Nat) (hi : i ≤ bs.length) : BytesAt w (.slice (some ⟨sb, so + i, none⟩) (bs.length - i) (cap - i)) (bs.drop i) := by
  obtain ⟨p, c, he, hc, hz, h⟩ := h
  simp at he
  obtain ⟨rfl, rfl, rfl⟩ := he
  refine ⟨_, _, by rw [List.length_drop], by rw [List.length_drop]; omega, (fun h => by cases h), fun hn => ?_⟩
  have hne : bs ≠ [] := by rintro rfl; simp at hn
  obtain ⟨sb', so', e, hcell⟩ := h hne
  simp at e
  obtain ⟨rfl, rfl⟩ := e
  refine ⟨_, _, rfl, fun j hj => ?_⟩
  rw [List.length_drop] at hj
  rw [Nat.add_assoc, hcell (i + j) (by omega)]
  simp
/-- v is the call's own slice (its block is base or later), and holds the bytes xs. -/
def OwnB (w : World) (base : Nat) (v : Value) (xs : List Nat) : Prop := w.ownsRow base 5 1 v xs.length (xs.map By)
theorem info5 : (Try.prog.info? 5).map (fun i => (i.zero, i.size, i.bytes)) = some (some (.int .u8 0), 1, 1) := by kernel_rfl
theorem OwnB.nil (w : World) (base : Nat) : OwnB w base (.slice none 0 0) [] := ⟨rfl, Or.inl ⟨rfl, rfl⟩⟩
theorem OwnB.form {w : World} {base : Nat} {v : Value} {xs : List Nat} (h : OwnB w base v xs) : ∃ p cap, v = .slice p xs.length cap := by
  obtain ⟨_, ⟨rfl, hn⟩ | ⟨g, cap, cur, rfl, _⟩⟩ := h
  · exact ⟨_, _, by rw [hn]⟩
  · exact ⟨_, _, rfl⟩
theorem OwnB.bytes {w : World} {base : Nat} {v : Value} {xs : List Nat} (h : OwnB w base v xs) : BytesAt w v xs := by
  obtain ⟨_, ⟨rfl, hn⟩ | ⟨g, cap, cur, rfl, hg, hh, hc, hm, hcs, ht⟩⟩ := h
  · exact ⟨.none, 0, by rw [hn], by omega, fun _ => rfl, fun hne => absurd (List.eq_nil_of_length_eq_zero hn) hne⟩
  · refine ⟨_, cap, rfl, hc, (fun h => by cases h), fun _ => ⟨g, 0, rfl, fun i hi => ?_⟩⟩
    rw [Nat.zero_add, cell_of_row _ _ _ _ _ _ hh]
    rw [Nat.mul_one] at ht
    have e : (cur.toList.take xs.length)[i]? = (xs.map By)[i]? := by rw [ht]
    rw [List.getElem?_take, if_pos hi] at e
    rw [← Array.getElem?_toList, e]
    simp [hi]
theorem OwnB.block {w : World} {base : Nat} {v : Value} {xs : List Nat} (h : OwnB w base v xs) : ∀ k, v.ownBlock = some k → base ≤ k ∧ k < w.heap.size := by
  intro k hk
  obtain ⟨_, ⟨rfl, hn⟩ | ⟨g, cap, cur, rfl, hg, hh, _⟩⟩ := h
  · simp [Value.ownBlock] at hk
  · simp [Value.ownBlock] at hk
    subst hk
    exact ⟨hg, (Array.getElem?_eq_some_iff.1 hh).1⟩
theorem OwnB.stay {w w' : World} {base : Nat} {v : Value} {xs : List Nat} (h : OwnB w base v xs) (hs : ∀ k, v.ownBlock = some k → w'.heap[k]? = w.heap[k]?) : OwnB w' base v xs := by
  obtain ⟨h1, ⟨rfl, hn⟩ | ⟨g, cap, cur, rfl, hg, hh, r⟩⟩ := h
  · exact ⟨h1, Or.inl ⟨rfl, hn⟩⟩
  · exact ⟨h1, Or.inr ⟨g, cap, cur, rfl, hg, by rw [hs g rfl]; exact hh, r⟩⟩
theorem OwnB.below {w w' : World} {base : Nat} {v : Value} {xs : List Nat} (h : OwnB w base v xs) (hb : Below w.heap.size w w') : OwnB w' base v xs :=
  h.stay fun k hk => hb.block k (h.block k hk).2
theorem OwnB.mono {w : World} {base B : Nat} {v : Value} {xs : List Nat} (h : OwnB w B v xs) (hb : base ≤ B) : OwnB w base v xs := by
  obtain ⟨h1, ⟨rfl, hn⟩ | ⟨g, cap, cur, rfl, hg, r⟩⟩ := h
  · exact ⟨h1, Or.inl ⟨rfl, hn⟩⟩
  · exact ⟨h1, Or.inr ⟨g, cap, cur, rfl, by omega, r⟩⟩
/-- append(s, x...), as the walk meets it. -/
theorem wpL_append {ops : Array Oper} {rest : List Oper} {Q : Exit → Act → World → Prop} {a : Act} {w : World} {dd : Option Tmp} {s x : Operand} {tt : TypeId} {pos : String} {af : Array Edge} (base : Nat) (v sv : Value) (xs bs : List Nat) (N : Nat) (hN : xs.length + bs.length = N)
    (hs : a.eval s = v) (hx : a.eval x = sv) (ho : OwnB w base v xs) (hb : BytesAt w sv bs) (hsz : N ≤ 1099511627776) (hbase : base ≤ w.heap.size)
    (h : ∀ p cap w', OwnB w' base (.slice p N cap) (xs ++ bs) → Below base w w' → wpList Try.prog ops Q rest (a.put dd (.slice p N cap)) w') :
    wpList Try.prog ops Q ({ dst := dd, op := .call { callee := .builtin .append, args := #[s, x], argTypes := #[23, 23] }, type := tt, pos := pos, after := af, guard := .none } :: rest) a w := by
  subst hN
  obtain ⟨i, hi, hz0, hz1, hz2⟩ := info_parts info5
  have hbelow : ∀ w', w.grownBy w' v.ownBlock → Below base w w' := fun w' hg => ⟨hg.os, hg.tape, hg.output, hg.size, fun k hk => hg.block k (by omega) (fun e => by have := (ho.block k e.symm).1; omega)⟩
  obtain ⟨p, cap, rfl, hc, hpn, hcell⟩ := hb
  by_cases hbs : bs = []
  · subst hbs
    rcases p with _ | ad
    · have hc0 := hpn rfl
      subst hc0
      obtain ⟨p', cap', rfl⟩ := ho.form
      refine wpList_append_own_none rfl s x 23 rfl base 5 i 1 Try.underlying23 hi _ xs.length (xs.map By) hs ho hx ?_
      exact h p' cap' w (by rw [List.append_nil]; exact ho) (Below.refl _ _)
    · refine wpList_append_own w rfl s x 23 rfl base 5 i (.int .u8 0) 1 1 Try.underlying23 hi hz0 hz1 hz2 rfl (by omega) v xs.length (xs.map By) hs ho ad 0 cap [] hx (by simp) (by simp) (by simp) (by simp only [maxLen]; omega) (by omega) hbase ?_
      intro v' w' ho' hg hnil
      have ho'' : OwnB w' base v' (xs ++ []) := by unfold OwnB; rw [List.map_append, List.length_append]; exact ho'
      obtain ⟨p', cap', rfl⟩ := ho''.form
      rw [List.length_append] at ho'' ⊢
      exact h p' cap' w' ho'' (hbelow w' hg)
  · obtain ⟨sb, so, rfl, hcl⟩ := hcell hbs
    refine wpList_append_own w rfl s x 23 rfl base 5 i (.int .u8 0) 1 1 Try.underlying23 hi hz0 hz1 hz2 rfl (by omega) v xs.length (xs.map By) hs ho ⟨sb, so, .none⟩ bs.length cap (bs.map By) hx (by simp) ?_ (mapBy_one bs) (by simp only [maxLen]; omega) (by omega) hbase ?_
    · intro j u hu
      have hj : j < bs.length := by have := (List.getElem?_eq_some_iff.1 hu).1; simpa using this
      rw [Addr.add_mid, hcl j hj, ← hu]
      simp [hj]
    · intro v' w' ho' hg hnil
      have ho'' : OwnB w' base v' (xs ++ bs) := by unfold OwnB; rw [List.map_append, List.length_append]; exact ho'
      obtain ⟨p', cap', rfl⟩ := ho''.form
      rw [List.length_append] at ho'' ⊢
      exact h p' cap' w' ho'' (hbelow w' hg)
/-- One byte in a new row. -/
theorem bytes_one (w : World) (v : Value) (x : Nat) (hv : v = By x) : BytesAt (w.alloc (.cells #[v] 5)) (.slice (some ⟨w.heap.size, 0, .none⟩) 1 1) [x] := by
  refine ⟨_, 1, rfl, by simp, (fun h => by cases h), fun _ => ⟨w.heap.size, 0, rfl, fun i hi => ?_⟩⟩
  obtain rfl : i = 0 := by simpa using hi
  rw [cell_of_row _ _ _ _ _ _ (heap_alloc_last w _), hv]
  rfl
/-- A new row of no bytes. -/
theorem own_empty (w : World) : OwnB (w.alloc (.cells #[] 5)) w.heap.size (.slice (some ⟨w.heap.size, 0, .none⟩) 0 0) [] :=
  ⟨rfl, Or.inr ⟨w.heap.size, 0, #[], rfl, Nat.le_refl _, heap_alloc_last w _, by simp, by simp, by simp, by simp⟩⟩
end Go.Proofs.Ytpiflgbcbhnmpaa
