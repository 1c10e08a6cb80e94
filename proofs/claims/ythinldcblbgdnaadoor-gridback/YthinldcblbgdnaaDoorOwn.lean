/- Rows of integers that a call itself made, and append onto them. -/
import Derived.Test.YthinldcblbgdnaaDoorFree
import Derived.OwnWalk
import Derived.Maps.AppendAt
import Derived.Laws.AppendOwnNone
namespace Go.Proofs.YthinldcblbgdnaaDoor
open Go.RowKit
theorem mapI_one (l : List Int) : ∀ v ∈ l.map I, v.oneCell' = true := by
  intro v hv
  obtain ⟨x, _, rfl⟩ := List.mem_map.1 hv
  rfl
/-- v is the call's own slice (its block is base or later), and holds the integers xs. -/
def OwnI (w : World) (base : Nat) (v : Value) (xs : List Int) : Prop := w.ownsRow base 3 1 v xs.length (xs.map I)
theorem info3 : (Tryd.prog.info? 3).map (fun i => (i.zero, i.size, i.bytes)) = some (some (.int .i64 0), 1, 8) := by kernel_rfl
theorem OwnI.nil (w : World) (base : Nat) : OwnI w base (.slice none 0 0) [] := ⟨rfl, Or.inl ⟨rfl, rfl⟩⟩
theorem OwnI.form {w : World} {base : Nat} {v : Value} {xs : List Int} (h : OwnI w base v xs) : ∃ p cap, v = .slice p xs.length cap := by
  obtain ⟨_, ⟨rfl, hn⟩ | ⟨g, cap, cur, rfl, _⟩⟩ := h
  · exact ⟨_, _, by rw [hn]⟩
  · exact ⟨_, _, rfl⟩
theorem OwnI.ints {w : World} {base : Nat} {v : Value} {xs : List Int} (h : OwnI w base v xs) : IntsAt w v xs := by
  obtain ⟨_, ⟨rfl, hn⟩ | ⟨g, cap, cur, rfl, hg, hh, hc, hm, hcs, ht⟩⟩ := h
  · exact ⟨.none, 0, by rw [hn], by omega, fun _ => rfl, fun hne => absurd (List.eq_nil_of_length_eq_zero hn) hne⟩
  · refine ⟨_, cap, rfl, hc, (fun h => by cases h), fun _ => ⟨g, 0, rfl, fun i hi => ?_⟩⟩
    rw [Nat.zero_add, cell_of_row _ _ _ _ _ _ hh]
    rw [Nat.mul_one] at ht
    have e : (cur.toList.take xs.length)[i]? = (xs.map I)[i]? := by rw [ht]
    rw [List.getElem?_take, if_pos hi] at e
    rw [← Array.getElem?_toList, e]
    simp [hi, I]
theorem OwnI.block {w : World} {base : Nat} {v : Value} {xs : List Int} (h : OwnI w base v xs) : ∀ k, v.ownBlock = some k → base ≤ k ∧ k < w.heap.size := by
  intro k hk
  obtain ⟨_, ⟨rfl, hn⟩ | ⟨g, cap, cur, rfl, hg, hh, _⟩⟩ := h
  · simp [Value.ownBlock] at hk
  · simp [Value.ownBlock] at hk
    subst hk
    exact ⟨hg, (Array.getElem?_eq_some_iff.1 hh).1⟩
theorem OwnI.stay {w w' : World} {base : Nat} {v : Value} {xs : List Int} (h : OwnI w base v xs) (hs : ∀ k, v.ownBlock = some k → w'.heap[k]? = w.heap[k]?) : OwnI w' base v xs := by
  obtain ⟨h1, ⟨rfl, hn⟩ | ⟨g, cap, cur, rfl, hg, hh, r⟩⟩ := h
  · exact ⟨h1, Or.inl ⟨rfl, hn⟩⟩
  · exact ⟨h1, Or.inr ⟨g, cap, cur, rfl, hg, by rw [hs g rfl]; exact hh, r⟩⟩
theorem OwnI.below {w w' : World} {base : Nat} {v : Value} {xs : List Int} (h : OwnI w base v xs) (hb : Below w.heap.size w w') : OwnI w' base v xs :=
  h.stay fun k hk => hb.block k (h.block k hk).2
theorem OwnI.mono {w : World} {base B : Nat} {v : Value} {xs : List Int} (h : OwnI w B v xs) (hb : base ≤ B) : OwnI w base v xs := by
  obtain ⟨h1, ⟨rfl, hn⟩ | ⟨g, cap, cur, rfl, hg, r⟩⟩ := h
  · exact ⟨h1, Or.inl ⟨rfl, hn⟩⟩
  · exact ⟨h1, Or.inr ⟨g, cap, cur, rfl, by omega, r⟩⟩
/-- One integer in a new row. -/
theorem ints_one (w : World) (v : Value) (x : Int) (hv : v = I x) : IntsAt (w.alloc (.cells #[v] 3)) (.slice (some ⟨w.heap.size, 0, .none⟩) 1 1) [x] := by
  refine ⟨_, 1, rfl, by simp, (fun h => by cases h), fun _ => ⟨w.heap.size, 0, rfl, fun i hi => ?_⟩⟩
  obtain rfl : i = 0 := by simpa using hi
  rw [cell_of_row _ _ _ _ _ _ (heap_alloc_last w _), hv]
  rfl
/-- From the slice v a slice v' has been made: nothing else has turned that was there. -/
structure Gro (w : World) (v : Value) (w' : World) (v' : Value) : Prop where
  os : w'.os = w.os
  tape : w'.tape = w.tape
  output : w'.output = w.output
  size : w.heap.size ≤ w'.heap.size
  block : ∀ k, k < w.heap.size → v.ownBlock ≠ some k → w'.heap[k]? = w.heap[k]?
  pl : v'.ownBlock = v.ownBlock ∨ ∀ k, v'.ownBlock = some k → w.heap.size ≤ k
theorem Gro.refl (w : World) (v : Value) : Gro w v w v := ⟨rfl, rfl, rfl, Nat.le_refl _, fun _ _ _ => rfl, Or.inl rfl⟩
theorem Gro.trans {a b c : World} {u v x : Value} (h : Gro a u b v) (k : Gro b v c x) : Gro a u c x := by
  refine ⟨k.os.trans h.os, k.tape.trans h.tape, k.output.trans h.output, Nat.le_trans h.size k.size, fun i hi hn => ?_, ?_⟩
  · rw [k.block i (Nat.lt_of_lt_of_le hi h.size) (fun he => ?_)]
    · exact h.block i hi hn
    · rcases h.pl with h1 | h1
      · rw [h1] at he; exact hn he
      · have := h1 i he; omega
  · rcases k.pl with k1 | k1
    · rcases h.pl with h1 | h1
      · exact Or.inl (k1.trans h1)
      · exact Or.inr (fun i hi => h1 i (by rw [← k1]; exact hi))
    · exact Or.inr (fun i hi => Nat.le_trans h.size (k1 i hi))
theorem Gro.alloc {a b : World} {u v : Value} (h : Gro a u b v) (o : Obj) : Gro a u (b.alloc o) v :=
  h.trans ⟨rfl, rfl, rfl, by simp, fun k hk _ => Below.heap_alloc b o k hk, Or.inl rfl⟩
theorem Gro.keep {a b c : World} {u v : Value} (h : Gro a u b v) (hb : Below b.heap.size b c) : Gro a u c v :=
  h.trans ⟨hb.os, hb.tape, hb.output, hb.size, fun k hk _ => hb.block k hk, Or.inl rfl⟩
theorem Gro.drew {a b : World} {u v : Value} (h : Gro a u b v) : Gro a u b.drew v := ⟨h.os, h.tape, h.output, h.size, h.block, h.pl⟩
theorem Gro.below {a b : World} {u v : Value} {xs : List Int} {base : Nat} (h : Gro a u b v) (ho : OwnI a base u xs) (hb : base ≤ a.heap.size) : Below base a b :=
  ⟨h.os, h.tape, h.output, h.size, fun k hk => h.block k (by omega) (fun he => by have := (ho.block k he).1; omega)⟩
/-- A block that isn't the slice's own stays. -/
theorem Gro.blk {a b : World} {u v : Value} (h : Gro a u b v) {g : Nat} {l : List Value} {t : TypeId} (hl : Blk a g l t) (hn : u.ownBlock ≠ some g) : Blk b g l t := by
  have := hl.lt
  unfold Blk at *
  rw [h.block g this hn]; exact hl
theorem wpL_appendN {ops : Array Oper} {rest : List Oper} {Q : Exit → Act → World → Prop} {a : Act} {w : World} {dd : Option Tmp} {s x : Operand} {tt : TypeId} {pos : String} {af : Array Edge} (base : Nat) (v sv : Value) (xs bs : List Int) (N : Nat) (hne : bs ≠ []) (hN : xs.length + bs.length = N)
    (hs : a.eval s = v) (hx : a.eval x = sv) (ho : OwnI w base v xs) (hb : IntsAt w sv bs) (hsz : N ≤ 1099511627776) (hbase : base ≤ w.heap.size)
    (h : ∀ p cap w', OwnI w' base (.slice p N cap) (xs ++ bs) → Gro w v w' (.slice p N cap) → wpList Tryd.prog ops Q rest (a.put dd (.slice p N cap)) w') :
    wpList Tryd.prog ops Q ({ dst := dd, op := .call { callee := .builtin .append, args := #[s, x], argTypes := #[22, 22] }, type := tt, pos := pos, after := af, guard := .none } :: rest) a w := by
  subst hN
  obtain ⟨i, hi, hz0, hz1, hz2⟩ := info_parts info3
  obtain ⟨p, cap, rfl, hc, hpn, hcell⟩ := hb
  obtain ⟨sb, so, rfl, hcl⟩ := hcell hne
  refine wpList_append_own_at w rfl s x 22 rfl base 3 i (.int .i64 0) 1 8 Tryd.underlying22 hi hz0 hz1 hz2 rfl (by omega) v xs.length (xs.map I) hs ho ⟨sb, so, .none⟩ bs.length cap (bs.map I) hx (by simp) ?_ (mapI_one bs) (by simp only [maxLen]; omega) (by omega) hbase ?_
  · intro j u hu
    have hj : j < bs.length := by have := (List.getElem?_eq_some_iff.1 hu).1; simpa using this
    rw [Addr.add_mid, hcl j hj, ← hu]
    simp [hj, I]
  · intro v' w' ho' hg hnil hat
    have ho'' : OwnI w' base v' (xs ++ bs) := by unfold OwnI; rw [List.map_append, List.length_append]; exact ho'
    obtain ⟨p', cap', rfl⟩ := ho''.form
    rw [List.length_append] at ho'' hat ⊢
    refine h p' cap' w' ho'' ⟨hg.os, hg.tape, hg.output, hg.size, fun k hk hn => hg.block k hk (fun he => hn he.symm), ?_⟩
    rcases hat with hat | hat
    · exact Or.inl hat
    · exact Or.inr (fun k hk => by rw [hat] at hk; cases hk; exact Nat.le_refl _)
end Go.Proofs.YthinldcblbgdnaaDoor
