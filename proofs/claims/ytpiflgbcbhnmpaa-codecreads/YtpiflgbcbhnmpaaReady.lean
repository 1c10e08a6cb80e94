/- Steps of a region whose order is drawn: a whole array is read, or written, or a function of the program is called. -/
import Derived.Test.YtpiflgbcbhnmpaaBase
import Derived.RegionTactic
import Derived.Deep.DeepCutAuto
import Derived.Deep.RegionHeld3
import Derived.Deep.DrawnRows
namespace Go.Proofs.Ytpiflgbcbhnmpaa
open Go.RowKit
section
variable {P : Program} {ops : Array Oper} {Q : Exit → Act → World → Prop} {md : Region.Mode} {fuel : Nat} {listed : Array Bool} {a : Act} {w : World} {i : Nat} {rs : List Nat}
variable {dd : Option Tmp} {x y : Operand} {tt : TypeId} {pos : String} {af : Array Edge}
/-- An operation that yields its value in whatever world is taken first. -/
theorem take_op {d : Tmp} {opx : Op} (v : Value) (ho : ops[i]? = some { dst := some d, op := opx, type := tt, pos := pos, after := af, guard := none })
    (hs : Region.noSelect ops = true) (hf : Region.free md ops listed i = true) (hr : (Region.ready md ops listed).contains i = true)
    (hQ : ∀ c a w, Q (.panic c) (a.put (some d) v) w → Q (.panic c) a w)
    (hy : ∀ w, (execOp a.eval { dst := some d, op := opx, type := tt, pos := pos, after := af, guard := none }).run P w = .ok (.value v) w)
    (h : wpAny P md ops Q fuel (listed.setIfInBounds i true) (a.put (some d) v) w) : wpAny P md ops Q (fuel + 1) listed a w :=
  wpAny_take ho hs hf hr hQ (Or.inl ⟨by simp [Region.wanted], hy⟩) h
theorem ready_load (ty : TypeId) (b o : Nat) (cs : List Value) (d : TypeDesc) (ho : ops[i]? = some { dst := dd, op := .load ty x, type := tt, pos := pos, after := af, guard := none })
    (hx : a.eval x = .pointer (some ⟨b, o, none⟩)) (hc : w.rangeAt b o cs) (hu : P.underlying ty = some d) (hd : d.isRow = true) (hi : (P.info? ty).map (·.size) = some cs.length)
    (h : wpAny P md ops Q fuel (listed.setIfInBounds i true) (a.put dd (.agg cs.toArray)) w) (hs : AllReady P md ops Q fuel listed a w rs) : AllReady P md ops Q fuel listed a w (i :: rs) :=
  AllReady.cons ho (fun K hK => by
    rw [if_pos (by simp [Region.wanted])]
    exact wp_load_mid ty x rfl b o hx cs d hc hu hd hi (hK _ _ h)) hs
theorem ready_store (ty : TypeId) (b o : Nat) (cs : List Value) (ho : ops[i]? = some { dst := dd, op := .store ty x y, type := tt, pos := pos, after := af, guard := none })
    (hx : a.eval x = .pointer (some ⟨b, o, none⟩)) (hy : a.eval y = .agg cs.toArray) (ht : w.there b o cs.length) (hi : (P.info? ty).map (·.size) = some cs.length) (h1 : ∀ v ∈ cs, v.oneCell' = true)
    (h : wpAny P md ops Q fuel (listed.setIfInBounds i true) (a.put dd undef) (w.setCells b o cs)) (hs : AllReady P md ops Q fuel listed a w rs) : AllReady P md ops Q fuel listed a w (i :: rs) :=
  AllReady.cons ho (fun K hK => by
    rw [if_pos (by simp [Region.wanted])]
    exact wp_store_mid ty x y rfl b o cs.toArray hx hy (by simpa using ht) (by simpa using hi) (all_oneCell_toArray h1) (by simpa using hK _ _ h)) hs
theorem ready_call (f : FuncId) (args : Array Operand) (ats : Array TypeId) (vs : Array Value) (ho : ops[i]? = some { dst := dd, op := .call { callee := .value (.func f), args := args, argTypes := ats }, type := tt, pos := pos, after := af, guard := none })
    (hcf : (callFunc f vs).run P w = .ok (.enter f vs) w) (hv : args.map a.eval = vs)
    (h : Calls P f vs w fun e w' => ∃ v, e = .returned v ∧ wpAny P md ops Q fuel (listed.setIfInBounds i true) (a.put dd v) w') (hs : AllReady P md ops Q fuel listed a w rs) : AllReady P md ops Q fuel listed a w (i :: rs) :=
  AllReady.cons ho (fun K hK => by
    rw [if_pos (by simp [Region.wanted])]
    unfold Oper.wp
    have he : (execOp a.eval { dst := dd, op := .call { callee := .value (.func f), args := args, argTypes := ats }, type := tt, pos := pos, after := af, guard := none }).run P w = .ok (.enter f vs) w := by
      simp [hv, hcf, go_sem]
    rw [he, Oper.upon_enter]
    refine h.mono fun e w' ⟨v, he, hw⟩ => ?_
    subst he
    exact hK _ _ hw) hs
end
end Go.Proofs.Ytpiflgbcbhnmpaa
