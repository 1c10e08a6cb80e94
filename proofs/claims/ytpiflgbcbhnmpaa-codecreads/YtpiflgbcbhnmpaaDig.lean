/- What the reader's digest answers. -/
import Derived.Test.YtpiflgbcbhnmpaaRdr
import Derived.Test.YtpiflgbcbhnmpaaReady
namespace Go.Proofs.Ytpiflgbcbhnmpaa
open Go.RowKit
section
variable {P : Program} {ops : Array Oper} {Q : Exit → Act → World → Prop} {md : Region.Mode} {fuel : Nat} {listed : Array Bool} {a : Act} {w : World} {i : Nat} {rs : List Nat}
theorem ready_copy {dd : Option Tmp} {x y : Operand} {tt : TypeId} {pos : String} {af : Array Edge} (dT sT elem : TypeId) (b o dLen dCap : Nat) (ad : Addr) (sLen sCap : Nat) (cs : List Value) (n : Nat) (hcn : cs.length = n)
    (ho : ops[i]? = some { dst := dd, op := .call { callee := .builtin .copy, args := #[x, y], argTypes := #[dT, sT] }, type := tt, pos := pos, after := af, guard := none })
    (hu : P.underlying dT = some (.slice elem)) (hsz : (P.info? elem).map (·.size) = some 1)
    (hd : a.eval x = .slice (some ⟨b, o, none⟩) dLen dCap) (hy : a.eval y = .slice (some ad) sLen sCap) (hn : cs.length = Nat.min sLen dLen)
    (hsrc : ∀ j v, cs[j]? = some v → w.cell? (ad.add j) = some v) (ht : w.there b o cs.length) (h1 : ∀ v ∈ cs, v.oneCell' = true)
    (h : wpAny P md ops Q fuel (listed.setIfInBounds i true) (a.put dd (.int .i64 n)) (w.setCells b o cs)) (hs : AllReady P md ops Q fuel listed a w rs) : AllReady P md ops Q fuel listed a w (i :: rs) :=
  AllReady.cons ho (fun K hK => by
    subst hcn
    rw [if_pos (by simp [Region.wanted])]
    have hrun := run_copy_cells (P := P) w dT sT tt elem b o dLen dCap ad sLen sCap cs hu hsz hn hsrc (fun j hj => (ht j hj).1) (fun j hj => (ht j hj).2) h1
    unfold Oper.wp
    simp [execOp, resolve, invoke, builtin, hd, hy, hrun, Result.andThen]
    exact hK _ _ h) hs
theorem ready_run {dd : Option Tmp} {opx : Op} {tt : TypeId} {pos : String} {af : Array Edge} (v : Value) (w' : World) (ho : ops[i]? = some { dst := dd, op := opx, type := tt, pos := pos, after := af, guard := none })
    (hr : (execOp a.eval { dst := dd, op := opx, type := tt, pos := pos, after := af, guard := none }).run P w = .ok (.value v) w')
    (h : wpAny P md ops Q fuel (listed.setIfInBounds i true) (a.put dd v) w') (hs : AllReady P md ops Q fuel listed a w rs) : AllReady P md ops Q fuel listed a w (i :: rs) :=
  AllReady.cons ho (fun K hK => by
    rw [if_pos (by simp [Region.wanted])]
    unfold Oper.wp
    rw [hr]
    exact hK _ _ h) hs
end
/-- n noughts, as bytes. -/
def zB (n : Nat) : List Value := (List.replicate n 0).map By
theorem zB_eq (n : Nat) : zB n = List.replicate n (Value.int .u8 0) := by simp only [zB, List.map_replicate]; rfl
theorem zB_length (n : Nat) : (zB n).length = n := by simp [zB]
theorem zv36 (w : World) : (zeroValue 36).run Try.prog w = .ok (.agg (zB 32).toArray) w := by rw [zB_eq]; exact Try.zeroValue36 w
theorem size36 : (Try.prog.info? 36).map (·.size) = some 32 := by kernel_rfl
attribute [local go_sem ↓] zv36
/-- A digest is read. -/
def pDig (bs : List Nat) (bad : Bool) : List Nat × List Nat × Bool := if bs.length < 32 then (List.replicate 32 0, [], true) else (bs.take 32, bs.drop 32, bad)
theorem pDig_byt {bs : List Nat} {bad : Bool} (h : Byt bs) : Byt (pDig bs bad).2.1 := by
  unfold pDig; split
  · exact Byt.nil
  · exact h.drop _
theorem pDig_len {bs : List Nat} {bad : Bool} : (pDig bs bad).2.1.length ≤ bs.length := by
  unfold pDig; split <;> simp
theorem pDig_32 {bs : List Nat} {bad : Bool} : (pDig bs bad).1.length = 32 := by
  unfold pDig; split
  · simp
  · simp; omega
/-- What a reader's call answers: it leaves all else as it was. -/
def RdOk (w : World) (rb : Nat) (v : Value) (s : List Nat × Bool) (e : Ending) (w' : World) : Prop := e = .returned v ∧ RdAt w' rb s.1 s.2 ∧ Only rb w w'
set_option maxRecDepth 100000 in
set_option maxHeartbeats 1000000 in
theorem digest95 (rb : Nat) (bs : List Nat) (bad : Bool) (w : World) (h : RdAt w rb bs bad) (hsz : bs.length < 100000000000) :
    Calls Try.prog 95 #[.pointer (some ⟨rb, 0, none⟩)] w fun e w' => RdOk w rb (.agg ((pDig bs bad).1.map By).toArray) (pDig bs bad).2 e w' := by
  have hlt := h.lt
  have hR0 : RdAt ((w.alloc (.cells (zB 32).toArray 36)).alloc (.cells (zB 32).toArray 36)) rb bs bad := h.below (((Below.refl _ _).alloc (Nat.le_refl _) _).alloc (by simp) _)
  have hO0 : Only rb w ((w.alloc (.cells (zB 32).toArray 36)).alloc (.cells (zB 32).toArray 36)) := ((Only.refl rb w).alloc _).alloc _
  have hB0 : Blk ((w.alloc (.cells (zB 32).toArray 36)).alloc (.cells (zB 32).toArray 36)) w.heap.size (zB 32) 36 := (Blk.new _ _ _).alloc _
  have hB1 : Blk ((w.alloc (.cells (zB 32).toArray 36)).alloc (.cells (zB 32).toArray 36)) (w.heap.size + 1) (zB 32) 36 := Blk.new' _ _ _ _ (by simp)
  have hF := fun W h => fail_any rb bs bad W h
  have HF : Hid (∀ W, RdAt W rb bs bad → Calls Try.prog 96 #[.pointer (some ⟨rb, 0, none⟩)] W fun e w' => e = .returned (.tuple #[]) ∧ RdAt w' rb [] true ∧ Only rb W w') := hF
  clear hF h
  by_cases hs : bs.length < 32
  · have hp : pDig bs bad = (List.replicate 32 0, [], true) := by unfold pDig; rw [if_pos hs]
    rw [hp]
    go_enter Try.func95, Try.ntmps95
    go_upto_region 2 with (fail)
    generalize (w.alloc (.cells (zB 32).toArray 36)).alloc (.cells (zB 32).toArray 36) = W at *
    obtain ⟨v, hK, hU⟩ := hR0
    have hU' := hU
    obtain ⟨p, cap, rfl, hcap, hz, hcell⟩ := hU'
    have hR0 : RdAt W rb bs bad := ⟨_, hK, hU⟩
    have c0 := hK.cell 0
    have c1 := hK.cell 1
    have f0 := hK.frozen 0
    simp only [List.getElem?_cons_zero, List.getElem?_cons_succ] at c0 c1
    obtain ⟨M, hM⟩ : ∃ M, M = bs.length := ⟨_, rfl⟩
    rw [← hM] at c0 hK hU hcap
    have HM : Hid (M = bs.length) := hM
    have e1 : (M : Int) < 32 := by omega
    obtain ⟨Z, hZ⟩ : ∃ Z, Z = zB 32 := ⟨_, rfl⟩
    have hZl : Z.length = 32 := by rw [hZ]; exact zB_length 32
    have HZ : Hid (∀ X, X = List.replicate 32 0 → X.map By = Z) := by rintro X rfl; exact hZ.symm
    have hone : Hid (∀ v ∈ Z, v.oneCell' = true) := by rw [hZ]; exact mapBy_one _
    rw [← hZ] at hB0 hB1
    have hi36 : (Try.prog.info? 36).map (·.size) = some Z.length := by rw [hZl]; exact size36
    clear hM hcell hz hp hU hK hcap hZ hs
    go_wp2_with fail
    refine Calls.mono (HF.out _ hR0) ?_
    rintro e w2 ⟨rfl, hR2, hO2⟩
    have hB0' := hO2.blk hB0 (by omega)
    have hB1' := hO2.blk hB1 (by omega)
    have hr1 := hB1'.range
    have hth := hB0'.there 0 Z.length (by omega)
    have hbr := Blk.setCells Z 0 hB0' (by omega)
    rw [show over Z 0 Z = Z by simp [over]] at hbr
    have hRf : RdAt (w2.setCells w.heap.size 0 Z) rb [] true := by
      obtain ⟨v2, k1, k2⟩ := hR2
      have ho : Only (w.heap.size) w2 (w2.setCells w.heap.size 0 Z) := ⟨(misc_setCells _ Z 0 w2).1, (misc_setCells _ Z 0 w2).2.1, (misc_setCells _ Z 0 w2).2.2, by rw [size_setCells]; exact Nat.le_refl _, fun k _ hn => heap_setCells _ Z 0 w2 k hn⟩
      obtain ⟨p2, c2, e2, a1, a2, _⟩ := k2
      exact ⟨v2, k1.setCells_ne _ (by omega) 0 Z, p2, c2, e2, a1, a2, fun h => absurd rfl h⟩
    have hOf : Only rb w (w2.setCells w.heap.size 0 Z) := (hO0.trans hO2).setCellsNew (Nat.le_refl _) 0 Z
    go_wp2_with (first
      | ((with_reducible refine wpL_load 36 (w.heap.size + 1) 0 Z _ ?_ hr1 Try.underlying36 ?_ hi36 ?_); (rfl); (rfl); (simp only [Act.put, List.setIfInBounds_toArray, List.set_cons_zero, List.set_cons_succ]))
      | ((with_reducible refine wpL_store 36 w.heap.size 0 Z ?_ ?_ hth hi36 hone.out ?_); (rfl); (rfl); (simp only [Act.put])))
    exact bodyPost_ret (results_array Try.results95 rfl hbr Try.underlying36 rfl hi36) rfl ⟨by rw [HZ.out _ rfl], hRf, hOf⟩
  · have hp : pDig bs bad = (bs.take 32, bs.drop 32, bad) := by unfold pDig; rw [if_neg hs]
    rw [hp]
    obtain ⟨T, hT⟩ : ∃ T, T = bs.take 32 := ⟨_, rfl⟩
    rw [← hT]
    go_enter Try.func95, Try.ntmps95
    go_upto_region 2 with (fail)
    generalize (w.alloc (.cells (zB 32).toArray 36)).alloc (.cells (zB 32).toArray 36) = W at *
    obtain ⟨v, hK, hU⟩ := hR0
    have hU' := hU
    obtain ⟨p, cap, rfl, hcap, hz, hcell⟩ := hU'
    have hR0 : RdAt W rb bs bad := ⟨_, hK, hU⟩
    have c0 := hK.cell 0
    have c1 := hK.cell 1
    have f0 := hK.frozen 0
    simp only [List.getElem?_cons_zero, List.getElem?_cons_succ] at c0 c1
    obtain ⟨M, hM⟩ : ∃ M, M = bs.length := ⟨_, rfl⟩
    rw [← hM] at c0 hK hU hcap
    have HM : Hid (M = bs.length) := hM
    have e1 : ¬ (M : Int) < 32 := by omega
    have hne : bs ≠ [] := by rintro rfl; simp at hs
    obtain ⟨sb, so, rfl, hlt2, hcell⟩ := hcell hne
    obtain ⟨D, hD⟩ : ∃ D, D = T.map By := ⟨_, rfl⟩
    have hDl : D.length = 32 := by rw [hD, hT]; simp; omega
    have HD : Hid (∀ X, X = T → X.map By = D) := by rintro X rfl; exact hD.symm
    have hone : Hid (∀ v ∈ D, v.oneCell' = true) := by rw [hD]; exact mapBy_one _
    have hi36 : (Try.prog.info? 36).map (·.size) = some D.length := by rw [hDl]; exact size36
    have hsrc : Hid (∀ j v, D[j]? = some v → W.drew.cell? (Addr.add ⟨sb, so, none⟩ j) = some v) := fun j v hv => by
      have hj : j < 32 := by have := (List.getElem?_eq_some_iff.1 hv).1; omega
      rw [Addr.add_mid]
      show W.cell? ⟨sb, so + j, none⟩ = some v
      rw [hcell j (by omega), ← hv, hD, hT]
      simp [hj, show j < bs.length by omega]
    have hUd := hU.drop 32 (by omega)
    have HUD : Hid ((cap = 32 → Under W rb (.slice (some ⟨sb, so, none⟩) (M - 32) 0) (bs.drop 32)) ∧ (¬ cap = 32 → Under W rb (.slice (some ⟨sb, so + 32, none⟩) (M - 32) (cap - 32)) (bs.drop 32))) := hUd
    have hth := hB1.drew.there 0 D.length (by rw [hDl, zB_length]; omega)
    have hB2 := Blk.setCells D 0 hB1.drew (by rw [hDl, zB_length]; omega)
    rw [show over (zB 32) 0 D = D by simp [over, zB, hDl]] at hB2
    have hB3 := hB0.drew.setCells_ne (w.heap.size + 1) (by omega) 0 D
    have hK3 := hK.drew.setCells_ne (w.heap.size + 1) (by omega) 0 D
    have hO3 : Only rb w (W.drew.setCells (w.heap.size + 1) 0 D) := hO0.drew.setCellsNew (by omega) 0 D
    have hOW : Only rb W (W.drew.setCells (w.heap.size + 1) 0 D) → True := fun _ => trivial
    have HUW : Hid (∀ v X, Under W rb v X → Under (W.drew.setCells (w.heap.size + 1) 0 D) rb v X) := fun v X h => by
      obtain ⟨p2, c2, e2, a1, a2, a3⟩ := h
      refine ⟨p2, c2, e2, a1, a2, fun hn => ?_⟩
      obtain ⟨sb2, so2, e3, l3, hc3⟩ := a3 hn
      refine ⟨sb2, so2, e3, l3, fun i hi => ?_⟩
      have hh : (W.drew.setCells (w.heap.size + 1) 0 D).heap[sb2]? = W.heap[sb2]? := heap_setCells _ D 0 W.drew sb2 (by omega)
      rw [World.cell?_of_block (w := W) (a := ⟨sb2, so2 + i, none⟩) hh]
      exact hc3 i hi
    have c0d : W.drew.cell? ⟨rb, 0, none⟩ = some (.slice (some ⟨sb, so, none⟩) M cap) := c0
    have hsz5 : (Try.prog.info? 5).map (·.size) = some 1 := by kernel_rfl
    have hmin : D.length = Nat.min M 32 := by rw [hDl]; show 32 = min M 32; omega
    clear hM hcell hz hp hU hD hs hUd hne hOW hR0 hB0 hB1 HF hT
    go_upto_region 5 with (fail)
    refine wp_region_noPanic ?_
    refine wp_region_any (by kernel_rfl) ?_
    change wpAny _ _ _ _ _ _ _ (World.drew _)
    refine take_op (i := 0) (.slice (some ⟨w.heap.size + 1, 0, none⟩) 32 32) (by exact rfl) (by kernel_rfl) (by kernel_rfl) (by kernel_rfl) (fun _ _ _ h => h) (fun w => by go_simp) ?_
    simp only [Act.put, List.setIfInBounds_toArray, List.set_cons_zero, List.set_cons_succ]
    refine take_op (i := 1) (.pointer (some ⟨rb, 0, none⟩)) (by exact rfl) (by kernel_rfl) (by kernel_rfl) (by kernel_rfl) (fun _ _ _ h => h) (fun w => by go_simp) ?_
    simp only [Act.put, List.setIfInBounds_toArray, List.set_cons_zero, List.set_cons_succ]
    refine take_op (i := 2) (.pointer (some ⟨rb, 0, none⟩)) (by exact rfl) (by kernel_rfl) (by kernel_rfl) (by kernel_rfl) (fun _ _ _ h => h) (fun w => by go_simp) ?_
    simp only [Act.put, List.setIfInBounds_toArray, List.set_cons_zero, List.set_cons_succ]
    refine take_op (i := 3) (.pointer (some ⟨rb, 0, none⟩)) (by exact rfl) (by kernel_rfl) (by kernel_rfl) (by kernel_rfl) (fun _ _ _ h => h) (fun w => by go_simp) ?_
    simp only [Act.put, List.setIfInBounds_toArray, List.set_cons_zero, List.set_cons_succ]
    refine wpAny_ready (rs := [4]) (by kernel_rfl) (by simp) ?_
    refine ready_run (.slice (some ⟨sb, so, none⟩) M cap) W.drew (by exact rfl) (by go_simp) ?_ AllReady.nil
    simp only [Act.put, List.setIfInBounds_toArray, List.set_cons_zero, List.set_cons_succ]
    refine wpAny_ready (rs := [5]) (by kernel_rfl) (by simp) ?_
    refine ready_copy 23 23 5 (w.heap.size + 1) 0 32 32 ⟨sb, so, none⟩ M cap D 32 hDl (by exact rfl) Try.underlying23 hsz5 (by go_simp) (by go_simp) hmin hsrc.out hth hone.out ?_ AllReady.nil
    simp only [Act.put, List.setIfInBounds_toArray, List.set_cons_zero, List.set_cons_succ]
    refine wpAny_done (by kernel_rfl) (NoPanic.normal ?_) _
    clear hsrc hth c0 c0d c1 f0 hK hO0 hmin
    generalize W.drew.setCells (w.heap.size + 1) 0 D = W2 at *
    have c0 := hK3.cell 0
    have c1 := hK3.cell 1
    have f0 := hK3.frozen 0
    simp only [List.getElem?_cons_zero, List.getElem?_cons_succ] at c0 c1
    have e32 : (32 : Int) ≤ (M : Int) := by omega
    have HFIN : Hid (∀ x, Under W rb x (bs.drop 32) → (W2.setCell ⟨rb, 0, none⟩ x).rangeAt (w.heap.size + 1) 0 D ∧ (W2.setCell ⟨rb, 0, none⟩ x).there w.heap.size 0 D.length ∧ Blk ((W2.setCell ⟨rb, 0, none⟩ x).setCells w.heap.size 0 D) w.heap.size D 36 ∧ RdAt ((W2.setCell ⟨rb, 0, none⟩ x).setCells w.heap.size 0 D) rb (bs.drop 32) bad ∧ Only rb w ((W2.setCell ⟨rb, 0, none⟩ x).setCells w.heap.size 0 D)) := by
      intro x hx
      have k1 := hB2.set_ne ⟨rb, 0, none⟩ (by show w.heap.size + 1 ≠ rb; omega) x
      have k0 := hB3.set_ne ⟨rb, 0, none⟩ (by show w.heap.size ≠ rb; omega) x
      have kr := hK3.set 0 x
      have kf := Blk.setCells D 0 k0 (by rw [hDl, zB_length]; omega)
      rw [show over (zB 32) 0 D = D by simp [over, zB, hDl]] at kf
      refine ⟨k1.range, k0.there 0 _ (by rw [hDl, zB_length]; omega), kf, ⟨x, kr.setCells_ne _ (by omega) 0 D, ?_⟩, (hO3.setCell 0 x).setCellsNew (Nat.le_refl _) 0 D⟩
      have h2 := (HUW.out x _ hx).only ((Only.refl rb W2).setCell 0 x)
      obtain ⟨p2, c2, e2, a1, a2, a3⟩ := h2
      refine ⟨p2, c2, e2, a1, a2, fun hn => ?_⟩
      obtain ⟨sb2, so2, e3, l3, hc3⟩ := a3 hn
      refine ⟨sb2, so2, e3, l3, fun i hi => ?_⟩
      have hh : ((W2.setCell ⟨rb, 0, none⟩ x).setCells w.heap.size 0 D).heap[sb2]? = (W2.setCell ⟨rb, 0, none⟩ x).heap[sb2]? := heap_setCells _ D 0 _ sb2 (by omega)
      rw [World.cell?_of_block (w := W2.setCell ⟨rb, 0, none⟩ x) (a := ⟨sb2, so2 + i, none⟩) hh]
      exact hc3 i hi
    clear hB2 hB3 hK3 hO3 HUW
    by_cases hcs : cap = 32
    · have hU2 := HUD.out.1 hcs
      subst hcs
      obtain rfl : M = 32 := by omega
      obtain ⟨g1, g2, g3, g4, g5⟩ := HFIN.out _ hU2
      clear HUD HFIN hU2
      go_wp2_with (first
        | ((with_reducible refine wpL_load 36 (w.heap.size + 1) 0 D _ ?_ g1 Try.underlying36 ?_ hi36 ?_); (rfl); (rfl); (simp only [Act.put, List.setIfInBounds_toArray, List.set_cons_zero, List.set_cons_succ]))
        | ((with_reducible refine wpL_store 36 w.heap.size 0 D ?_ ?_ g2 hi36 hone.out ?_); (rfl); (rfl); (simp only [Act.put])))
      exact bodyPost_ret (results_array Try.results95 rfl g3 Try.underlying36 rfl hi36) rfl ⟨by rw [HD.out _ rfl], g4, g5⟩
    · have hU2 := HUD.out.2 hcs
      obtain ⟨g1, g2, g3, g4, g5⟩ := HFIN.out _ hU2
      clear HUD HFIN hU2
      go_wp2_with (first
        | ((with_reducible refine wpL_load 36 (w.heap.size + 1) 0 D _ ?_ g1 Try.underlying36 ?_ hi36 ?_); (rfl); (rfl); (simp only [Act.put, List.setIfInBounds_toArray, List.set_cons_zero, List.set_cons_succ]))
        | ((with_reducible refine wpL_store 36 w.heap.size 0 D ?_ ?_ g2 hi36 hone.out ?_); (rfl); (rfl); (simp only [Act.put])))
      exact bodyPost_ret (results_array Try.results95 rfl g3 Try.underlying36 rfl hi36) rfl ⟨by rw [HD.out _ rfl], g4, g5⟩
end Go.Proofs.Ytpiflgbcbhnmpaa
