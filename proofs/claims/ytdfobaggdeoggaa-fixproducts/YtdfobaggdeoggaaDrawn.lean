/- Steps of a region whose order is drawn, under a condition that holds of every world in it. -/
import Derived.Test.YtdfobaggdeoggaaHeld
import Derived.Deep.RegionHeld
namespace Go.Proofs.Ytdfobaggdeoggaa
open Go.RowKit
section
variable {P : Program} {ops : Array Oper} {Q : Exit → Act → World → Prop} {md : Region.Mode} {S : World → Prop} {fuel : Nat} {listed : Array Bool} {a : Act} {w : World} {i : Nat} {rs : List Nat}
variable {dd : Option Tmp} {x y : Operand} {tt : TypeId} {pos : String} {af : Array Edge}
theorem takeH_op {d : Tmp} {opx : Op} (v : Value) (ho : ops[i]? = some { dst := some d, op := opx, type := tt, pos := pos, after := af, guard := none })
    (hs : Region.noSelect ops = true) (hf : Region.free md ops listed i = true) (hr : (Region.ready md ops listed).contains i = true)
    (hQ : ∀ c a w, Q (.panic c) (a.put (some d) v) w → Q (.panic c) a w)
    (hy : ∀ w, (execOp a.eval { dst := some d, op := opx, type := tt, pos := pos, after := af, guard := none }).run P w = .ok (.value v) w) (hS : S w)
    (h : wpAnyH P md ops Q S fuel (listed.setIfInBounds i true) (a.put (some d) v) w) : wpAnyH P md ops Q S (fuel + 1) listed a w :=
  wpAnyH_take ho hs hf hr hQ (Or.inl ⟨by simp [Region.wanted], fun w _ => hy w⟩) hS h
theorem takeH_load {d : Tmp} (ty : TypeId) (b o : Nat) (cs : List Value) (de : TypeDesc) (ho : ops[i]? = some { dst := some d, op := .load ty x, type := tt, pos := pos, after := af, guard := none })
    (hs : Region.noSelect ops = true) (hf : Region.free md ops listed i = true) (hr : (Region.ready md ops listed).contains i = true)
    (hQ : ∀ c a w, Q (.panic c) (a.put (some d) (.agg cs.toArray)) w → Q (.panic c) a w)
    (hx : a.eval x = .pointer (some ⟨b, o, none⟩)) (hc : ∀ w, S w → w.rangeAt b o cs) (hu : P.underlying ty = some de) (hd : de.isRow = true) (hi : (P.info? ty).map (·.size) = some cs.length) (hS : S w)
    (h : wpAnyH P md ops Q S fuel (listed.setIfInBounds i true) (a.put (some d) (.agg cs.toArray)) w) : wpAnyH P md ops Q S (fuel + 1) listed a w :=
  wpAnyH_take ho hs hf hr hQ (yieldsIf_load_mid (by simp [Region.wanted]) ty x rfl b o hx cs de hc hu hd hi) hS h
theorem readyH_call (f : FuncId) (args : Array Operand) (ats : Array TypeId) (vs : Array Value) (ho : ops[i]? = some { dst := dd, op := .call { callee := .value (.func f), args := args, argTypes := ats }, type := tt, pos := pos, after := af, guard := none })
    (hcf : (callFunc f vs).run P w = .ok (.enter f vs) w) (hv : args.map a.eval = vs)
    (h : Calls P f vs w fun e w' => ∃ v, e = .returned v ∧ S w' ∧ wpAnyH P md ops Q S fuel (listed.setIfInBounds i true) (a.put dd v) w') (hs : AllReadyH P md ops Q S fuel listed a w rs) : AllReadyH P md ops Q S fuel listed a w (i :: rs) :=
  AllReadyH.cons ho (fun K hK => by
    rw [if_pos (by simp [Region.wanted])]
    unfold Oper.wp
    have he : (execOp a.eval { dst := dd, op := .call { callee := .value (.func f), args := args, argTypes := ats }, type := tt, pos := pos, after := af, guard := none }).run P w = .ok (.enter f vs) w := by
      simp [hv, hcf, go_sem]
    rw [he, Oper.upon_enter]
    refine h.mono fun e w' ⟨v, he, hS, hw⟩ => ?_
    subst he
    exact hK.out _ _ hS (fun _ => hw)) hs
theorem readyH_alloc {d : Tmp} (ty : TypeId) (z : List Value) (hz : ∀ w, (zeroValue ty).run P w = .ok (.agg z.toArray) w) (ho : ops[i]? = some { dst := some d, op := .alloc ty, type := tt, pos := pos, after := af, guard := none })
    (hS : S (w.alloc (.cells z.toArray ty)))
    (h : wpAnyH P md ops Q S fuel (listed.setIfInBounds i true) (a.put (some d) (.pointer (some ⟨w.heap.size, 0, none⟩))) (w.alloc (.cells z.toArray ty))) (hs : AllReadyH P md ops Q S fuel listed a w rs) : AllReadyH P md ops Q S fuel listed a w (i :: rs) :=
  AllReadyH.cons ho (fun K hK => by
    rw [if_pos (by simp [Region.wanted])]
    unfold Oper.wp execOp
    have ha := alloc_of hz w
    simp only [Sem.run_bind, ha, Result.andThen_ok, Sem.run_pure]
    exact hK.out _ _ hS (fun _ => h)) hs
theorem readyH_store (ty : TypeId) (b o : Nat) (cs : List Value) (ho : ops[i]? = some { dst := dd, op := .store ty x y, type := tt, pos := pos, after := af, guard := none })
    (hx : a.eval x = .pointer (some ⟨b, o, none⟩)) (hy : a.eval y = .agg cs.toArray) (ht : w.there b o cs.length) (hi : (P.info? ty).map (·.size) = some cs.length) (h1 : ∀ v ∈ cs, v.oneCell' = true)
    (hS : S (w.setCells b o cs))
    (h : wpAnyH P md ops Q S fuel (listed.setIfInBounds i true) (a.put dd undef) (w.setCells b o cs)) (hs : AllReadyH P md ops Q S fuel listed a w rs) : AllReadyH P md ops Q S fuel listed a w (i :: rs) :=
  AllReadyH.cons ho (fun K hK => by
    rw [if_pos (by simp [Region.wanted])]
    exact wp_store_mid ty x y rfl b o cs.toArray hx hy (by simpa using ht) (by simpa using hi) (all_oneCell_toArray h1) (by simpa using hK.out _ _ hS (fun _ => h))) hs
end
end Go.Proofs.Ytdfobaggdeoggaa
