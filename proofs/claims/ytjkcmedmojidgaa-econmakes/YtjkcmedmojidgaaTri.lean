/- Three rows side by side: two of the call's own that grow, and a player's queue. -/
import Derived.Test.YtjkcmedmojidgaaActsWalk
import Derived.Test.YtjkcmedmojidgaaKat
import Derived.Test.YtjkcmedmojidgaaForkTwo
namespace Go.Proofs.Ytjkcmedmojidgaa
open Go.RowKit
/-- append(s, x...) onto the call's own row, x known and of one or more. -/
theorem wpL_appendN {ops : Array Oper} {rest : List Oper} {Q : Exit → Act → World → Prop} {a : Act} {w : World} {dd : Option Tmp} {s x : Operand} {tt : TypeId} {pos : String} {af : Array Edge} (base : Nat) (v sv : Value) (xs bs : List Int) (hne : bs ≠ [])
    (hs : a.eval s = v) (hx : a.eval x = sv) (ho : OwnI w base v xs) (hb : IntsAt w sv bs) (hsz : xs.length + bs.length ≤ 1000000000) (hbase : base ≤ w.heap.size)
    (h : ∀ v' w', OwnI w' base v' (xs ++ bs) → Gro w v w' v' → wpList Try.prog ops Q rest (a.put dd v') w') :
    wpList Try.prog ops Q ({ dst := dd, op := .call { callee := .builtin .append, args := #[s, x], argTypes := #[34, 34] }, type := tt, pos := pos, after := af, guard := .none } :: rest) a w := by
  obtain ⟨i, hi, hz0, hz1, hz2⟩ := info_parts info3
  obtain ⟨p, cap, rfl, hc, hpn, hcell⟩ := hb
  obtain ⟨sb, so, rfl, hcl⟩ := hcell hne
  refine wpList_append_own_at w rfl s x 34 rfl base 3 i (.int .i64 0) 1 8 Try.underlying34 hi hz0 hz1 hz2 rfl (by omega) v xs.length (xs.map I) hs ho ⟨sb, so, .none⟩ bs.length cap (bs.map I) hx (by simp) ?_ (mapI_one bs) (by simp only [maxLen]; omega) (by omega) hbase ?_
  · intro j u hu
    have hj : j < bs.length := by have := (List.getElem?_eq_some_iff.1 hu).1; simpa using this
    rw [Addr.add_mid, hcl j hj, ← hu]
    simp [hj, I]
  · intro v' w' ho' hg hnil hat
    have ho'' : OwnI w' base v' (xs ++ bs) := by unfold OwnI; rw [List.map_append, List.length_append]; exact ho'
    refine h v' w' ho'' ⟨hg.os, hg.tape, hg.output, hg.size, fun k hk hn => hg.block k hk (fun he => hn he.symm), ?_⟩
    rcases hat with hat | hat
    · exact Or.inl hat
    · exact Or.inr (fun k hk => by rw [hat] at hk; cases hk; exact Nat.le_refl _)
theorem Rw.block {w : World} {base : Nat} {v : Value} {xs : List Int} (h : Rw w base v xs) : ∀ k, v.ownBlock = some k → base ≤ k ∧ k < w.heap.size := by
  intro k hk
  obtain ⟨p, cap, rfl, _⟩ := h.1
  rcases p with _ | a
  · simp [Value.ownBlock] at hk
  · simp [Value.ownBlock] at hk
    subst hk
    exact h.2 _ _ _ rfl
theorem Rw.stay {w w' : World} {base : Nat} {v : Value} {xs : List Int} (h : Rw w base v xs) (hsz : w.heap.size ≤ w'.heap.size) (hs : ∀ k, v.ownBlock = some k → w'.heap[k]? = w.heap[k]?) : Rw w' base v xs := by
  obtain ⟨⟨p, cap, rfl, hc, hz, h⟩, h2⟩ := h
  refine ⟨⟨p, cap, rfl, hc, hz, fun hn => ?_⟩, fun q n c e => ⟨(h2 q n c e).1, Nat.lt_of_lt_of_le (h2 q n c e).2 hsz⟩⟩
  obtain ⟨sb, so, rfl, hcell⟩ := h hn
  exact ⟨sb, so, rfl, fun i hi => by rw [← hcell i hi]; simp only [World.cell?]; rw [hs sb rfl]⟩
/-- The rows want (in wv) and got (in gv), and a queue (in qv): none shares a block with another, none lies in G or below. -/
structure Tri (W : World) (G : Nat) (wv gv qv : Value) (want got q : List Int) : Prop where
  w : OwnI W (G + 1) wv want
  g : OwnI W (G + 1) gv got
  q : Rw W (G + 1) qv q
  d1 : ∀ k, wv.ownBlock = some k → gv.ownBlock ≠ some k
  d2 : ∀ k, wv.ownBlock = some k → qv.ownBlock ≠ some k
  d3 : ∀ k, gv.ownBlock = some k → qv.ownBlock ≠ some k
  lt : G < W.heap.size
theorem Tri.below {W W' : World} {G : Nat} {wv gv qv : Value} {want got q : List Int} (h : Tri W G wv gv qv want got q) (hb : Below W.heap.size W W') : Tri W' G wv gv qv want got q :=
  ⟨h.w.below hb, h.g.below hb, h.q.below hb, h.d1, h.d2, h.d3, Nat.lt_of_lt_of_le h.lt hb.size⟩
theorem Tri.set {W : World} {G : Nat} {wv gv qv : Value} {want got q : List Int} (h : Tri W G wv gv qv want got q) (j : Nat) (u : Value) : Tri (W.setCell ⟨G, j, none⟩ u) G wv gv qv want got q :=
  ⟨h.w.set _ u (by simp), h.g.set _ u (by simp), h.q.set _ u (by simp), h.d1, h.d2, h.d3, by simpa using h.lt⟩
/-- Another queue, in new memory. -/
theorem Tri.queue {W W' : World} {G : Nat} {wv gv qv : Value} {want got q : List Int} (h : Tri W G wv gv qv want got q) (hb : Below W.heap.size W W') {rv : Value} {r : List Int} (hr : Rw W' W.heap.size rv r) : Tri W' G wv gv rv want got r :=
  ⟨h.w.below hb, h.g.below hb, hr.mono h.lt, h.d1, fun k hk he => by have := (h.w.block k hk).2; have := (hr.block k he).1; omega, fun k hk he => by have := (h.g.block k hk).2; have := (hr.block k he).1; omega, Nat.lt_of_lt_of_le h.lt hb.size⟩
theorem Tri.growW {W W' : World} {G : Nat} {wv gv qv wv' : Value} {want got q want' : List Int} (h : Tri W G wv gv qv want got q) (hg : Gro W wv W' wv') (ho : OwnI W' (G + 1) wv' want') : Tri W' G wv' gv qv want' got q := by
  refine ⟨ho, h.g.stay fun k hk => hg.block k (h.g.block k hk).2 (fun e => h.d1 k e hk), h.q.stay hg.size fun k hk => hg.block k (h.q.block k hk).2 (fun e => h.d2 k e hk), fun k hk he => ?_, fun k hk he => ?_, h.d3, Nat.lt_of_lt_of_le h.lt hg.size⟩
  · rcases hg.pl with e | e
    · exact h.d1 k (e ▸ hk) he
    · have := e k hk; have := (h.g.block k he).2; omega
  · rcases hg.pl with e | e
    · exact h.d2 k (e ▸ hk) he
    · have := e k hk; have := (h.q.block k he).2; omega
theorem Tri.growG {W W' : World} {G : Nat} {wv gv qv gv' : Value} {want got q got' : List Int} (h : Tri W G wv gv qv want got q) (hg : Gro W gv W' gv') (ho : OwnI W' (G + 1) gv' got') : Tri W' G wv gv' qv want got' q := by
  refine ⟨h.w.stay fun k hk => hg.block k (h.w.block k hk).2 (fun e => h.d1 k hk e), ho, h.q.stay hg.size fun k hk => hg.block k (h.q.block k hk).2 (fun e => h.d3 k e hk), fun k hk he => ?_, h.d2, fun k hk he => ?_, Nat.lt_of_lt_of_le h.lt hg.size⟩
  · rcases hg.pl with e | e
    · exact h.d1 k hk (e ▸ he)
    · have := e k he; have := (h.w.block k hk).2; omega
  · rcases hg.pl with e | e
    · exact h.d3 k (e ▸ hk) he
    · have := e k hk; have := (h.q.block k he).2; omega
/-- A store into a block that none of the three rows has. -/
theorem Tri.setA {W : World} {G : Nat} {wv gv qv : Value} {want got q : List Int} (h : Tri W G wv gv qv want got q) {A : Nat} (u : Value) (j : Nat) (h1 : wv.ownBlock ≠ some A) (h2 : gv.ownBlock ≠ some A) (h3 : ∀ k, qv.ownBlock = some k → k ≠ A) : Tri (W.setCell ⟨A, j, none⟩ u) G wv gv qv want got q :=
  ⟨h.w.stay fun k hk => Below.heap_setCell _ _ _ _ (fun e => h1 (by rw [hk, e])), h.g.stay fun k hk => Below.heap_setCell _ _ _ _ (fun e => h2 (by rw [hk, e])), h.q.stay (by simp) fun k hk => Below.heap_setCell _ _ _ _ (h3 k hk), h.d1, h.d2, h.d3, by simpa using h.lt⟩
theorem Tri.hitW {W : World} {G : Nat} {wv gv qv : Value} {want got q : List Int} (h : Tri W G wv gv qv want got q) : wv.ownBlock ≠ some G := fun e => by have := (h.w.block G e).1; omega
theorem Tri.hitG {W : World} {G : Nat} {wv gv qv : Value} {want got q : List Int} (h : Tri W G wv gv qv want got q) : gv.ownBlock ≠ some G := fun e => by have := (h.g.block G e).1; omega
end Go.Proofs.Ytjkcmedmojidgaa
