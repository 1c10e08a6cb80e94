/- append of bytes onto a slice of bytes that the call itself made. -/
import Derived.Test.YtpgckbjcacagdaaDoorSame
import Derived.Laws.AppendOwnNone
namespace Go.Proofs.YtpgckbjcacagdaaDoor
open Go.RowKit
/-- v is the call's own slice (its block is base or later), and holds the bytes xs. -/
def OwnB (w : World) (base : Nat) (v : Value) (xs : List Byte) : Prop := w.ownsRow base 5 1 v xs.length (xs.map B8)
theorem info5 : (Tryd.prog.info? 5).map (fun i => (i.zero, i.size, i.bytes)) = some (some (.int .u8 0), 1, 1) := by kernel_rfl
theorem OwnB.nil (w : World) (base : Nat) : OwnB w base (.slice none 0 0) [] := ⟨rfl, Or.inl ⟨rfl, rfl⟩⟩
theorem OwnB.form {w : World} {base : Nat} {v : Value} {xs : List Byte} (h : OwnB w base v xs) : ∃ p cap, v = .slice p xs.length cap := by
  obtain ⟨_, ⟨rfl, hn⟩ | ⟨g, cap, cur, rfl, _⟩⟩ := h
  · exact ⟨_, _, by rw [hn]⟩
  · exact ⟨_, _, rfl⟩
theorem OwnB.bytes {w : World} {base : Nat} {v : Value} {xs : List Byte} (h : OwnB w base v xs) : BytesAt w v xs := by
  obtain ⟨_, ⟨rfl, hn⟩ | ⟨g, cap, cur, rfl, hg, hh, hc, hm, hcs, ht⟩⟩ := h
  · exact ⟨none, 0, by rw [hn], by omega, fun _ => rfl, fun hne => absurd (List.eq_nil_of_length_eq_zero hn) hne⟩
  · refine ⟨_, cap, rfl, hc, (fun h => by cases h), fun _ => ⟨g, 0, rfl, fun i hi => ?_⟩⟩
    rw [Nat.zero_add, cell_of_row _ _ _ _ _ _ hh]
    rw [Nat.mul_one] at ht
    have e : (cur.toList.take xs.length)[i]? = (xs.map B8)[i]? := by rw [ht]
    rw [List.getElem?_take, if_pos hi] at e
    rw [← Array.getElem?_toList, e]
    simp [hi]
theorem OwnB.block {w : World} {base : Nat} {v : Value} {xs : List Byte} (h : OwnB w base v xs) : ∀ k, v.ownBlock = some k → base ≤ k ∧ k < w.heap.size := by
  intro k hk
  obtain ⟨_, ⟨rfl, hn⟩ | ⟨g, cap, cur, rfl, hg, hh, _⟩⟩ := h
  · simp [Value.ownBlock] at hk
  · simp [Value.ownBlock] at hk
    subst hk
    exact ⟨hg, (Array.getElem?_eq_some_iff.1 hh).1⟩
/-- It stays while nothing below the heap's old size turns. -/
theorem OwnB.stay {w w' : World} {base : Nat} {v : Value} {xs : List Byte} (h : OwnB w base v xs) (hs : ∀ k, v.ownBlock = some k → w'.heap[k]? = w.heap[k]?) : OwnB w' base v xs := by
  obtain ⟨h1, ⟨rfl, hn⟩ | ⟨g, cap, cur, rfl, hg, hh, r⟩⟩ := h
  · exact ⟨h1, Or.inl ⟨rfl, hn⟩⟩
  · exact ⟨h1, Or.inr ⟨g, cap, cur, rfl, hg, by rw [hs g rfl]; exact hh, r⟩⟩
theorem OwnB.below {w w' : World} {base : Nat} {v : Value} {xs : List Byte} (h : OwnB w base v xs) (hb : Below w.heap.size w w') : OwnB w' base v xs :=
  h.stay fun k hk => hb.block k (h.block k hk).2
/-- append(s, x...), as the walk meets it. -/
theorem wpL_append {ops : Array Oper} {rest : List Oper} {Q : Exit → Act → World → Prop} {a : Act} {w : World} {dd : Option Tmp} {s x : Operand} {tt : TypeId} {pos : String} {af : Array Edge} (base : Nat) (v sv : Value) (xs bs : List Byte)
    (hs : a.eval s = v) (hx : a.eval x = sv) (ho : OwnB w base v xs) (hb : BytesAt w sv bs) (hsz : xs.length + bs.length ≤ 1099511627776) (hbase : base ≤ w.heap.size)
    (h : ∀ p cap w', OwnB w' base (.slice p (xs.length + bs.length) cap) (xs ++ bs) → w.grownBy w' v.ownBlock → Below base w w' → wpList Tryd.prog ops Q rest (a.put dd (.slice p (xs.length + bs.length) cap)) w') :
    wpList Tryd.prog ops Q ({ dst := dd, op := .call { callee := .builtin .append, args := #[s, x], argTypes := #[29, 29] }, type := tt, pos := pos, after := af, guard := none } :: rest) a w := by
  obtain ⟨i, hi, hz0, hz1, hz2⟩ := info_parts info5
  have hbelow : ∀ w', w.grownBy w' v.ownBlock → Below base w w' := fun w' hg => ⟨hg.os, hg.tape, hg.output, hg.size, fun k hk => hg.block k (by omega) (fun e => by have := (ho.block k e.symm).1; omega)⟩
  obtain ⟨p, cap, rfl, hc, hpn, hcell⟩ := hb
  by_cases hbs : bs = []
  · subst hbs
    rcases p with _ | ad
    · have hc0 := hpn rfl
      subst hc0
      obtain ⟨p', cap', rfl⟩ := ho.form
      refine wpList_append_own_none rfl s x 29 rfl base 5 i 1 Tryd.underlying29 hi _ xs.length (xs.map B8) hs ho hx ?_
      have := h p' cap' w (by rw [List.append_nil]; exact ho) ⟨rfl, rfl, rfl, Nat.le_refl _, fun _ _ _ => rfl⟩ (Below.refl _ _)
      exact this
    · refine wpList_append_own w rfl s x 29 rfl base 5 i (.int .u8 0) 1 1 Tryd.underlying29 hi hz0 hz1 hz2 rfl (by omega) v xs.length (xs.map B8) hs ho ad 0 cap [] hx (by simp) (by simp) (by simp) (by simp only [maxLen]; omega) (by omega) hbase ?_
      intro v' w' ho' hg hnil
      have ho'' : OwnB w' base v' (xs ++ []) := by unfold OwnB; rw [List.map_append, List.length_append]; exact ho'
      obtain ⟨p', cap', rfl⟩ := ho''.form
      rw [List.length_append] at ho'' ⊢
      exact h p' cap' w' ho'' hg (hbelow w' hg)
  · obtain ⟨sb, so, rfl, hcl⟩ := hcell hbs
    refine wpList_append_own w rfl s x 29 rfl base 5 i (.int .u8 0) 1 1 Tryd.underlying29 hi hz0 hz1 hz2 rfl (by omega) v xs.length (xs.map B8) hs ho ⟨sb, so, none⟩ bs.length cap (bs.map B8) hx (by simp) ?_ (mapB_one bs) (by simp only [maxLen]; omega) (by omega) hbase ?_
    · intro j u hu
      have hj : j < bs.length := by have := (List.getElem?_eq_some_iff.1 hu).1; simpa using this
      rw [Addr.add_mid, hcl j hj, ← hu]
      simp [hj]
    · intro v' w' ho' hg hnil
      have ho'' : OwnB w' base v' (xs ++ bs) := by unfold OwnB; rw [List.map_append, List.length_append]; exact ho'
      obtain ⟨p', cap', rfl⟩ := ho''.form
      rw [List.length_append] at ho'' ⊢
      exact h p' cap' w' ho'' hg (hbelow w' hg)
end Go.Proofs.YtpgckbjcacagdaaDoor
