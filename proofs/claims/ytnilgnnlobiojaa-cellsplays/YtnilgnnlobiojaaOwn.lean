/- Rows of integers that a call itself made, and append onto them. -/
import Derived.Test.YtnilgnnlobiojaaMem
import Derived.OwnWalk
import Derived.Laws.Cover3
import Derived.Maps.AppendAt
import Derived.Laws.AppendOwnNone
namespace Go.Proofs.Ytnilgnnlobiojaa
open Go.RowKit
/-- A call answers v, and what lay there is as it was. -/
def Out (w : World) (v : Value) (e : Ending) (w' : World) : Prop := e = .returned v ∧ Below w.heap.size w w'
theorem lt_of_cell {w : World} {p : Addr} {v : Value} (h : w.cell? p = some v) : p.block < w.heap.size := by
  rcases Nat.lt_or_ge p.block w.heap.size with h1 | h1
  · exact h1
  · simp [World.cell?, h1] at h
/-- v is a slice of the integers zs. -/
def IntsAt (w : World) (v : Value) (zs : List Int) : Prop :=
  ∃ p cap, v = .slice p zs.length cap ∧ zs.length ≤ cap ∧ (p = none → cap = 0) ∧ (zs ≠ [] → ∃ sb so, p = some ⟨sb, so, none⟩ ∧ ∀ i, i < zs.length → w.cell? ⟨sb, so + i, none⟩ = some (.int .i64 (zs.getD i 0)))
theorem IntsAt.below {w w' : World} {v : Value} {zs : List Int} (h : IntsAt w v zs) (hb : Below w.heap.size w w') : IntsAt w' v zs := by
  obtain ⟨p, cap, rfl, hc, hz, h⟩ := h
  refine ⟨p, cap, rfl, hc, hz, fun hn => ?_⟩
  obtain ⟨sb, so, rfl, hcell⟩ := h hn
  exact ⟨sb, so, rfl, fun i hi => by rw [hb.cell (p := ⟨sb, so + i, none⟩) (lt_of_cell (hcell i hi))]; exact hcell i hi⟩
theorem IntsAt.pos {w : World} {p : Option Addr} {n cap : Nat} {zs : List Int} (h : IntsAt w (.slice p n cap) zs) (i : Nat) (hi : i < n) : ∃ sb so, p = some ⟨sb, so, none⟩ ∧ ∀ i, i < n → w.cell? ⟨sb, so + i, none⟩ = some (.int .i64 (zs.getD i 0)) := by
  obtain ⟨q, c, he, hc, hz, h⟩ := h
  simp at he
  obtain ⟨rfl, rfl, rfl⟩ := he
  exact h (by intro h0; subst h0; simp at hi)
theorem mapI_one (l : List Int) : ∀ v ∈ l.map I, v.oneCell' = true := by
  intro v hv
  obtain ⟨x, _, rfl⟩ := List.mem_map.1 hv
  rfl
/-- v is the call's own slice (its block is base or later), and holds the integers xs. -/
def OwnI (w : World) (base : Nat) (v : Value) (xs : List Int) : Prop := w.ownsRow base 3 1 v xs.length (xs.map I)
theorem info3 : (Try.prog.info? 3).map (fun i => (i.zero, i.size, i.bytes)) = some (some (.int .i64 0), 1, 8) := by kernel_rfl
theorem OwnI.nil (w : World) (base : Nat) : OwnI w base (.slice none 0 0) [] := ⟨rfl, Or.inl ⟨rfl, rfl⟩⟩
theorem OwnI.form {w : World} {base : Nat} {v : Value} {xs : List Int} (h : OwnI w base v xs) : ∃ p cap, v = .slice p xs.length cap := by
  obtain ⟨_, ⟨rfl, hn⟩ | ⟨g, cap, cur, rfl, _⟩⟩ := h
  · exact ⟨_, _, by rw [hn]⟩
  · exact ⟨_, _, rfl⟩
theorem OwnI.ints {w : World} {base : Nat} {v : Value} {xs : List Int} (h : OwnI w base v xs) : IntsAt w v xs := by
  obtain ⟨_, ⟨rfl, hn⟩ | ⟨g, cap, cur, rfl, hg, hh, hc, hm, hcs, ht⟩⟩ := h
  · exact ⟨.none, 0, by rw [hn], by omega, fun _ => rfl, fun hne => absurd (List.eq_nil_of_length_eq_zero hn) hne⟩
  · refine ⟨_, cap, rfl, hc, (fun h => by cases h), fun _ => ⟨g, 0, rfl, fun i hi => ?_⟩⟩
    rw [Nat.zero_add, cell_of_row _ _ _ _ _ _ hh]
    rw [Nat.mul_one] at ht
    have e : (cur.toList.take xs.length)[i]? = (xs.map I)[i]? := by rw [ht]
    rw [List.getElem?_take, if_pos hi] at e
    rw [← Array.getElem?_toList, e]
    simp [hi, I]
theorem OwnI.block {w : World} {base : Nat} {v : Value} {xs : List Int} (h : OwnI w base v xs) : ∀ k, v.ownBlock = some k → base ≤ k ∧ k < w.heap.size := by
  intro k hk
  obtain ⟨_, ⟨rfl, hn⟩ | ⟨g, cap, cur, rfl, hg, hh, _⟩⟩ := h
  · simp [Value.ownBlock] at hk
  · simp [Value.ownBlock] at hk
    subst hk
    exact ⟨hg, (Array.getElem?_eq_some_iff.1 hh).1⟩
theorem OwnI.stay {w w' : World} {base : Nat} {v : Value} {xs : List Int} (h : OwnI w base v xs) (hs : ∀ k, v.ownBlock = some k → w'.heap[k]? = w.heap[k]?) : OwnI w' base v xs := by
  obtain ⟨h1, ⟨rfl, hn⟩ | ⟨g, cap, cur, rfl, hg, hh, r⟩⟩ := h
  · exact ⟨h1, Or.inl ⟨rfl, hn⟩⟩
  · exact ⟨h1, Or.inr ⟨g, cap, cur, rfl, hg, by rw [hs g rfl]; exact hh, r⟩⟩
theorem OwnI.below {w w' : World} {base : Nat} {v : Value} {xs : List Int} (h : OwnI w base v xs) (hb : Below w.heap.size w w') : OwnI w' base v xs :=
  h.stay fun k hk => hb.block k (h.block k hk).2
theorem OwnI.mono {w : World} {base B : Nat} {v : Value} {xs : List Int} (h : OwnI w B v xs) (hb : base ≤ B) : OwnI w base v xs := by
  obtain ⟨h1, ⟨rfl, hn⟩ | ⟨g, cap, cur, rfl, hg, r⟩⟩ := h
  · exact ⟨h1, Or.inl ⟨rfl, hn⟩⟩
  · exact ⟨h1, Or.inr ⟨g, cap, cur, rfl, by omega, r⟩⟩
/-- One integer in a new row. -/
theorem ints_one (w : World) (v : Value) (x : Int) (hv : v = I x) : IntsAt (w.alloc (.cells #[v] 3)) (.slice (some ⟨w.heap.size, 0, .none⟩) 1 1) [x] := by
  refine ⟨_, 1, rfl, by simp, (fun h => by cases h), fun _ => ⟨w.heap.size, 0, rfl, fun i hi => ?_⟩⟩
  obtain rfl : i = 0 := by simpa using hi
  rw [cell_of_row _ _ _ _ _ _ (heap_alloc_last w _), hv]
  rfl
/-- From the slice v a slice v' has been made: nothing else has turned that was there. -/
structure Gro (w : World) (v : Value) (w' : World) (v' : Value) : Prop where
  os : w'.os = w.os
  tape : w'.tape = w.tape
  output : w'.output = w.output
  size : w.heap.size ≤ w'.heap.size
  block : ∀ k, k < w.heap.size → v.ownBlock ≠ some k → w'.heap[k]? = w.heap[k]?
  pl : v'.ownBlock = v.ownBlock ∨ ∀ k, v'.ownBlock = some k → w.heap.size ≤ k
theorem Gro.refl (w : World) (v : Value) : Gro w v w v := ⟨rfl, rfl, rfl, Nat.le_refl _, fun _ _ _ => rfl, Or.inl rfl⟩
theorem Gro.trans {a b c : World} {u v x : Value} (h : Gro a u b v) (k : Gro b v c x) : Gro a u c x := by
  refine ⟨k.os.trans h.os, k.tape.trans h.tape, k.output.trans h.output, Nat.le_trans h.size k.size, fun i hi hn => ?_, ?_⟩
  · rw [k.block i (Nat.lt_of_lt_of_le hi h.size) (fun he => ?_)]
    · exact h.block i hi hn
    · rcases h.pl with h1 | h1
      · rw [h1] at he; exact hn he
      · have := h1 i he; omega
  · rcases k.pl with k1 | k1
    · rcases h.pl with h1 | h1
      · exact Or.inl (k1.trans h1)
      · exact Or.inr (fun i hi => h1 i (by rw [← k1]; exact hi))
    · exact Or.inr (fun i hi => Nat.le_trans h.size (k1 i hi))
theorem Gro.alloc {a b : World} {u v : Value} (h : Gro a u b v) (o : Obj) : Gro a u (b.alloc o) v :=
  h.trans ⟨rfl, rfl, rfl, by simp, fun k hk _ => Below.heap_alloc b o k hk, Or.inl rfl⟩
theorem Gro.keep {a b c : World} {u v : Value} (h : Gro a u b v) (hb : Below b.heap.size b c) : Gro a u c v :=
  h.trans ⟨hb.os, hb.tape, hb.output, hb.size, fun k hk _ => hb.block k hk, Or.inl rfl⟩
theorem Gro.drew {a b : World} {u v : Value} (h : Gro a u b v) : Gro a u b.drew v := ⟨h.os, h.tape, h.output, h.size, h.block, h.pl⟩
theorem Gro.below {a b : World} {u v : Value} {xs : List Int} {base : Nat} (h : Gro a u b v) (ho : OwnI a base u xs) (hb : base ≤ a.heap.size) : Below base a b :=
  ⟨h.os, h.tape, h.output, h.size, fun k hk => h.block k (by omega) (fun he => by have := (ho.block k he).1; omega)⟩
/-- A block that isn't the slice's own stays. -/
theorem Gro.blk {a b : World} {u v : Value} (h : Gro a u b v) {g : Nat} {l : List Value} {t : TypeId} (hl : Blk a g l t) (hn : u.ownBlock ≠ some g) : Blk b g l t := by
  have := hl.lt
  unfold Blk at *
  rw [h.block g this hn]; exact hl
/-- append(s, x...), as the walk meets it. -/
theorem wpL_append {ops : Array Oper} {rest : List Oper} {Q : Exit → Act → World → Prop} {a : Act} {w : World} {dd : Option Tmp} {s x : Operand} {tt : TypeId} {pos : String} {af : Array Edge} (base : Nat) (v sv : Value) (xs bs : List Int) (N : Nat) (hN : xs.length + bs.length = N)
    (hs : a.eval s = v) (hx : a.eval x = sv) (ho : OwnI w base v xs) (hb : IntsAt w sv bs) (hsz : N ≤ 1000000000) (hbase : base ≤ w.heap.size)
    (h : ∀ p cap w', OwnI w' base (.slice p N cap) (xs ++ bs) → Below base w w' → wpList Try.prog ops Q rest (a.put dd (.slice p N cap)) w') :
    wpList Try.prog ops Q ({ dst := dd, op := .call { callee := .builtin .append, args := #[s, x], argTypes := #[40, 40] }, type := tt, pos := pos, after := af, guard := .none } :: rest) a w := by
  subst hN
  obtain ⟨i, hi, hz0, hz1, hz2⟩ := info_parts info3
  have hbelow : ∀ w', w.grownBy w' v.ownBlock → Below base w w' := fun w' hg => ⟨hg.os, hg.tape, hg.output, hg.size, fun k hk => hg.block k (by omega) (fun e => by have := (ho.block k e.symm).1; omega)⟩
  obtain ⟨p, cap, rfl, hc, hpn, hcell⟩ := hb
  by_cases hbs : bs = []
  · subst hbs
    rcases p with _ | ad
    · have hc0 := hpn rfl
      subst hc0
      obtain ⟨p', cap', rfl⟩ := ho.form
      refine wpList_append_own_none rfl s x 40 rfl base 3 i 1 Try.underlying40 hi _ xs.length (xs.map I) hs ho hx ?_
      exact h p' cap' w (by rw [List.append_nil]; exact ho) (Below.refl _ _)
    · refine wpList_append_own w rfl s x 40 rfl base 3 i (.int .i64 0) 1 8 Try.underlying40 hi hz0 hz1 hz2 rfl (by omega) v xs.length (xs.map I) hs ho ad 0 cap [] hx (by simp) (by simp) (by simp) (by simp only [maxLen]; omega) (by omega) hbase ?_
      intro v' w' ho' hg hnil
      have ho'' : OwnI w' base v' (xs ++ []) := by unfold OwnI; rw [List.map_append, List.length_append]; exact ho'
      obtain ⟨p', cap', rfl⟩ := ho''.form
      rw [List.length_append] at ho'' ⊢
      exact h p' cap' w' ho'' (hbelow w' hg)
  · obtain ⟨sb, so, rfl, hcl⟩ := hcell hbs
    refine wpList_append_own w rfl s x 40 rfl base 3 i (.int .i64 0) 1 8 Try.underlying40 hi hz0 hz1 hz2 rfl (by omega) v xs.length (xs.map I) hs ho ⟨sb, so, .none⟩ bs.length cap (bs.map I) hx (by simp) ?_ (mapI_one bs) (by simp only [maxLen]; omega) (by omega) hbase ?_
    · intro j u hu
      have hj : j < bs.length := by have := (List.getElem?_eq_some_iff.1 hu).1; simpa using this
      rw [Addr.add_mid, hcl j hj, ← hu]
      simp [hj, I]
    · intro v' w' ho' hg hnil
      have ho'' : OwnI w' base v' (xs ++ bs) := by unfold OwnI; rw [List.map_append, List.length_append]; exact ho'
      obtain ⟨p', cap', rfl⟩ := ho''.form
      rw [List.length_append] at ho'' ⊢
      exact h p' cap' w' ho'' (hbelow w' hg)
/-- A new row of no integers. -/
theorem own_empty (w : World) : OwnI (w.alloc (.cells #[] 3)) w.heap.size (.slice (some ⟨w.heap.size, 0, .none⟩) 0 0) [] :=
  ⟨rfl, Or.inr ⟨w.heap.size, 0, #[], rfl, Nat.le_refl _, heap_alloc_last w _, by simp, by simp, by simp, by simp⟩⟩
theorem ints_nil (w : World) : IntsAt w (.slice none 0 0) [] := ⟨_, 0, rfl, by simp, fun _ => rfl, fun h => absurd rfl h⟩
theorem IntsAt.form {w : World} {v : Value} {zs : List Int} (h : IntsAt w v zs) : ∃ p cap, v = .slice p zs.length cap := by
  obtain ⟨p, cap, rfl, _⟩ := h
  exact ⟨p, cap, rfl⟩
theorem run_eqlNil (w : World) (p : Option Addr) (n c : Nat) : (binOp .eql 40 (.slice p n c) (.slice none 0 0)).run Try.prog w = .ok (.bool p.isNone) w := by
  simp only [binOp]
  have := run_equal_slice_nil (P := Try.prog) w 40 3 p n c Try.underlying40
  simp [go_sem, this]
attribute [local go_sem ↓] run_eqlNil
/-- A slice of integers xs that is answered; what lay there is as it was. -/
def OutI (w : World) (xs : List Int) (e : Ending) (w' : World) : Prop := ∃ p cap, e = .returned (.slice p xs.length cap) ∧ OwnI w' w.heap.size (.slice p xs.length cap) xs ∧ Below w.heap.size w w'
set_option maxRecDepth 100000 in
theorem clone_any (bs : List Int) (p : Option Addr) (M cap : Nat) (w : World) (hB : IntsAt w (.slice p M cap) bs) (hM : M = bs.length) (hsz : M ≤ 1000000) :
    Calls Try.prog 29 #[.slice p M cap] w fun e w' => OutI w bs e w' := by
  rcases p with _ | ⟨pb, po, ps⟩
  · have hM0 : M = 0 ∧ cap = 0 := by
      obtain ⟨p', c', he, hc, hz, _⟩ := hB
      simp at he
      obtain ⟨rfl, h1, rfl⟩ := he
      have := hz rfl
      omega
    obtain ⟨rfl, rfl⟩ := hM0
    have : bs = [] := List.eq_nil_of_length_eq_zero hM.symm
    subst this
    clear hM hsz hB
    go_enter Try.func29, Try.ntmps29
    go_wp2
    go_ret
    exact ⟨none, 0, rfl, OwnI.nil _ _, Below.refl _ _⟩
  · have hO5 := own_empty w
    have hB5 : IntsAt (w.alloc (.cells #[] 3)) (.slice (some ⟨pb, po, ps⟩) M cap) bs := hB.below ((Below.refl _ _).alloc (Nat.le_refl _) _)
    have hN5 : ([] : List Int).length + bs.length = M := by simp; omega
    have hNN : M ≤ 1000000000 := by omega
    have HM : Hid (M = bs.length) := hM
    clear hM hB
    go_enter Try.func29, Try.ntmps29
    go_wp2_with (first
        | ((with_reducible refine wpL_append w.heap.size (.slice (some ⟨w.heap.size, 0, none⟩) 0 0) (.slice (some ⟨pb, po, ps⟩) M cap) [] bs M hN5 ?_ ?_ hO5 hB5 hNN (by simp) ?_); (rfl); (rfl); (intro pm cm w5 hO6 hb6); (simp only [Act.put, List.setIfInBounds_toArray, List.set_cons_zero, List.set_cons_succ])))
    go_ret
    have e := HM.out
    subst e
    exact ⟨pm, cm, rfl, hO6, ((Below.refl _ _).alloc (Nat.le_refl _) _).trans hb6⟩
end Go.Proofs.Ytnilgnnlobiojaa
