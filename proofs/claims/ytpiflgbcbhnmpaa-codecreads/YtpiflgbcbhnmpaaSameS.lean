/- Two lists of the same commands are found to be the same. -/
import Derived.Test.YtpiflgbcbhnmpaaAllF
import Derived.Deep.DeepCutAuto
import Derived.Test.YtpiflgbcbhnmpaaMem
/- Two lists of the same commands are found to be the same. -/
namespace Go.Proofs.Ytpiflgbcbhnmpaa
open Go.RowKit
theorem CmdsAt.at {w : World} {p : Option Addr} {N cap : Nat} {cs : List C6} (h : CmdsAt w (.slice p N cap) cs) (hN : N = cs.length) {i : Nat} (hi : i < N) : ∃ b o, p = some ⟨b, o, none⟩ ∧ ∀ c, cs[i]? = some c → ∀ (j : Nat) (u : Value), c.cells[j]? = some u → ∀ W, Below w.heap.size w W → W.cell? ⟨b, o + i * 6 + j, none⟩ = some u := by
  obtain ⟨p', c', he, h⟩ := h
  simp at he
  obtain ⟨rfl, _, rfl⟩ := he
  obtain ⟨b, o, rfl, hc⟩ := h (by rintro rfl; simp at hN; omega)
  exact ⟨b, o, rfl, fun c hci j u hu W hW => by rw [hW.cell (p := ⟨b, o + i * 6 + j, none⟩) (lt_of_cell (hc i c hci j u hu))]; exact hc i c hci j u hu⟩
set_option maxRecDepth 100000 in
set_option maxHeartbeats 4000000 in
theorem sameCmds79 (cs : List C6) (p q : Option Addr) (N cap cap' : Nat) (w : World) (hN : N = cs.length) (h : CmdsAt w (.slice p N cap) cs) (h' : CmdsAt w (.slice q N cap') cs) (hsz : N < 1000000000) :
    Calls Try.prog 79 #[.slice p N cap, .slice q N cap'] w fun e w' => e = .returned (.bool true) ∧ Below w.heap.size w w' := by
  have H0 := hid h
  have H1 := hid h'
  have HN := hid (fun (_ : Nat) => hN)
  clear h h' hN
  go_enter Try.func79, Try.ntmps79
  go_wp2_with fail
  go_loopw [5] (fun iv wr => ∃ i : Nat, iv = .int .i64 (i : Int) ∧ i ≤ N ∧ Hid (Below w.heap.size w wr)) (fun iv _ => N - natOf iv)
  case atStart => exact ⟨0, rfl, by omega, Below.refl _ _⟩
  case round =>
    obtain ⟨i, rfl, hi, HB⟩ := hrel
    by_cases hlt : i < N
    · obtain ⟨c, hci⟩ : ∃ c, cs[i]? = some c := ⟨_, List.getElem?_eq_getElem (by have := HN.out 0; omega)⟩
      obtain ⟨b, o, rfl, hc⟩ := H0.out.at (HN.out 0) hlt
      obtain ⟨b', o', rfl, hc'⟩ := H1.out.at (HN.out 0) hlt
      have d := fun j u hu => hc c hci j u hu wr HB.out
      have d' := fun j u hu => hc' c hci j u hu wr HB.out
      have c0 : wr.cell? ⟨b, o + i * 6, none⟩ = some (.int .i64 c.k) := d 0 _ rfl
      have c1 := d 1 _ rfl
      have c2 := d 2 _ rfl
      have c3 := d 3 _ rfl
      have c4 := d 4 _ rfl
      have c5 := d 5 _ rfl
      have f0 : wr.cell? ⟨b', o' + i * 6, none⟩ = some (.int .i64 c.k) := d' 0 _ rfl
      have f1 := d' 1 _ rfl
      have f2 := d' 2 _ rfl
      have f3 := d' 3 _ rfl
      have f4 := d' 4 _ rfl
      have f5 := d' 5 _ rfl
      have e2 : (i : Int) < (N : Int) := by omega
      have e3 : (0 : Int) ≤ (i : Int) := by omega
      clear hc hc' d d' hci
      obtain ⟨k, u, t, h, x, y⟩ := c
      simp only at c0 c1 c2 c3 c4 c5 f0 f1 f2 f3 f4 f5
      go_upto_region 6 with fail
      go_quiet (fail)
      all_goals go_wp2
      all_goals exact ⟨⟨i + 1, by simp, by omega, Below.drewN HB.out _⟩, by simp [natOf]; omega⟩
    · obtain rfl : i = N := by omega
      go_wp2
      go_ret
      exact ⟨rfl, HB.out⟩
end Go.Proofs.Ytpiflgbcbhnmpaa
/- Two digests, as arrays by value, are held against each other. -/
namespace Go.Proofs.Ytpiflgbcbhnmpaa
open Go.RowKit
theorem part5 (w : World) (l : List Nat) (i : Nat) (hi : i < l.length) : (part 5 (l.map By).toArray i).run Try.prog w = .ok (By (l.getD i 0)) w := by
  simp [part, go_sem, hi]
theorem eq5 (w : World) (d : Nat) (x y : Nat) : (Op.equalIn (d + 1) 5 (By x) (By y)).run Try.prog w = .ok (x == y) w := by
  simp only [Op.equalIn, Sem.run_bind, run_underlying Try.underlying5, Result.andThen_ok, By]
  have e : ((x : Int) == (y : Int)) = (x == y) := by
    rw [Bool.eq_iff_iff]
    simp only [beq_iff_eq]
    omega
  simp [e]
theorem size5 (w : World) : (sizeOf 5).run Try.prog w = .ok 1 w := by
  simp [go_sem]
/-- The loop that compares two arrays, from place k on. -/
theorem loop_D (w : World) (d : Nat) (a b : List Nat) (n : Nat) (ha : a.length = n) (hb : b.length = n) : ∀ (m k : Nat), k + m = n →
    (forIn (List.range' k m) ((none, ()) : Option Bool × Unit) fun i (_ : Option Bool × Unit) => do
      let x ← part 5 (a.map By).toArray (i * 1)
      let y ← part 5 (b.map By).toArray (i * 1)
      let r ← Op.equalIn (d + 1) 5 x y
      if (!r) = true then pure (ForInStep.done ((some false, ()) : Option Bool × Unit)) else pure (ForInStep.yield (none, ()))).run Try.prog w =
    .ok (if a.drop k = b.drop k then (none, ()) else (some false, ())) w
  | 0, k, h => by
    have e1 : a.drop k = [] := List.drop_eq_nil_of_le (by omega)
    have e2 : b.drop k = [] := List.drop_eq_nil_of_le (by omega)
    simp [e1, e2]
  | m + 1, k, h => by
    have ih := loop_D w d a b n ha hb m (k + 1) (by omega)
    have hka : k < a.length := by omega
    have hkb : k < b.length := by omega
    have e1 : a.drop k = a.getD k 0 :: a.drop (k + 1) := by rw [List.drop_eq_getElem_cons hka]; simp [hka]
    have e2 : b.drop k = b.getD k 0 :: b.drop (k + 1) := by rw [List.drop_eq_getElem_cons hkb]; simp [hkb]
    rw [List.range'_succ, List.forIn_cons]
    simp only [Nat.mul_one, Sem.run_bind, part5 w a k hka, part5 w b k hkb, eq5, Result.andThen_ok] at ih ⊢
    rw [e1, e2]
    by_cases hxy : a.getD k 0 = b.getD k 0
    · rw [hxy]
      simp only [beq_self_eq_true, Bool.not_true, Bool.false_eq_true, if_false, Sem.run_pure, Result.andThen_ok, List.cons.injEq, true_and]
      exact ih
    · have hb' : (a.getD k 0 == b.getD k 0) = false := by simpa using hxy
      simp only [hb', Bool.not_false, if_true, Sem.run_pure, Result.andThen_ok, List.cons.injEq, hxy, false_and, if_false]
theorem equalIn_D (w : World) (d : Nat) (a b : List Nat) (ha : a.length = 32) (hb : b.length = 32) :
    (Op.equalIn (d + 2) 36 (.agg (a.map By).toArray) (.agg (b.map By).toArray)).run Try.prog w = .ok (decide (a = b)) w := by
  rw [Op.equalIn]
  simp only [Sem.run_bind, run_underlying Try.underlying36, Result.andThen_ok, size5]
  have hl := loop_D w d a b 32 ha hb 32 0 (by omega)
  simp only [Std.Legacy.Range.forIn_eq_forIn_range']
  rw [show ([:32] : Std.Legacy.Range).size = 32 from rfl, hl]
  simp only [List.drop_zero, Result.andThen_ok]
  by_cases h : a = b
  · simp [h]
  · simp [h]
theorem run_eql_D (w : World) (a b : List Nat) (ha : a.length = 32) (hb : b.length = 32) : (binOp .eql 36 (.agg (a.map By).toArray) (.agg (b.map By).toArray)).run Try.prog w = .ok (.bool (decide (a = b))) w := by
  simp only [binOp, Op.equal, Op.maxDepth, Sem.run_bind, equalIn_D w 9998 a b ha hb, Result.andThen_ok, Sem.run_pure]
theorem run_neq_D (w : World) (a b : List Nat) (ha : a.length = 32) (hb : b.length = 32) : (binOp .neq 36 (.agg (a.map By).toArray) (.agg (b.map By).toArray)).run Try.prog w = .ok (.bool (!decide (a = b))) w := by
  simp only [binOp, Op.equal, Op.maxDepth, Sem.run_bind, equalIn_D w 9998 a b ha hb, Result.andThen_ok, Sem.run_pure]
theorem eqGuard_D (w : World) (x y : Operand) (a b : Array Value) : (eqGuard .eql 36 x y (.agg a) (.agg b)).run Try.prog w = .ok () w := by
  simp [eqGuard, Sem.run_bind, go_sem]
theorem neqGuard_D (w : World) (x y : Operand) (a b : Array Value) : (eqGuard .neq 36 x y (.agg a) (.agg b)).run Try.prog w = .ok () w := by
  simp [eqGuard, Sem.run_bind, go_sem]
end Go.Proofs.Ytpiflgbcbhnmpaa
/- A sealed list of commands is found to be the same as itself. -/
namespace Go.Proofs.Ytpiflgbcbhnmpaa
open Go.RowKit
attribute [local go_sem] eqGuard_D neqGuard_D
theorem wpL_loadG {P : Program} {ops : Array Oper} {rest : List Oper} {Q : Exit → Act → World → Prop} {a : Act} {w : World} {dd : Option Tmp} {x : Operand} {tt : TypeId} {pos : String} {af : Array Edge} {g : Option (Nat × Bool)} (ty : TypeId) (b o : Nat) (cs : List Value) (d : TypeDesc)
    (hw : Region.wanted { dst := dd, op := .load ty x, type := tt, pos := pos, after := af, guard := g } (yielded ops a.tmps) = true)
    (hx : a.eval x = .pointer (some ⟨b, o, none⟩)) (hc : w.rangeAt b o cs) (hu : P.underlying ty = some d) (hd : d.isRow = true) (hi : (P.info? ty).map (·.size) = some cs.length)
    (h : wpList P ops Q rest (a.put dd (.agg cs.toArray)) w) : wpList P ops Q ({ dst := dd, op := .load ty x, type := tt, pos := pos, after := af, guard := g } :: rest) a w :=
  wpList_step fun K hK => by rw [if_pos hw]; exact wp_load_mid ty x rfl b o hx cs d hc hu hd hi (hK _ _ h)
theorem Blk.rangeD {w : World} {b : Nat} {l : List Value} {t : TypeId} (h : Blk w b l t) (o : Nat) (cs : List Value) (hd : (l.drop o).take cs.length = cs) : w.rangeAt b o cs := by
  intro j v hv
  rw [h.cell]
  have hj : j < cs.length := (List.getElem?_eq_some_iff.1 hv).1
  rw [← hd, List.getElem?_take, if_pos hj, List.getElem?_drop] at hv
  exact hv
set_option maxRecDepth 100000 in
set_option maxHeartbeats 4000000 in
theorem sameSealed40 (d : Sd) (ht : d.tag.length = 32) (p q : Option Addr) (N cap cap' : Nat) (w : World) (hN : N = d.cs.length) (h : CmdsAt w (.slice p N cap) d.cs) (h' : CmdsAt w (.slice q N cap') d.cs) (hsz : N < 1000000000) :
    Calls Try.prog 40 #[.agg (d.cells (.slice p N cap)).toArray, .agg (d.cells (.slice q N cap')).toArray] w fun e w' => e = .returned (.bool true) ∧ Below w.heap.size w w' := by
  obtain ⟨X, hX⟩ : ∃ X, X = d.cells (.slice p N cap) := ⟨_, rfl⟩
  obtain ⟨Y, hY⟩ : ∃ Y, Y = d.cells (.slice q N cap') := ⟨_, rfl⟩
  rw [← hX, ← hY]
  obtain ⟨W, hW⟩ : ∃ W, W = (w.alloc (.cells X.toArray 47)).alloc (.cells Y.toArray 47) := ⟨_, rfl⟩
  have hB : Blk W w.heap.size X 47 := by rw [hW]; exact (Blk.new w X 47).alloc _
  have hC : Blk W (w.heap.size + 1) Y 47 := by rw [hW]; exact Blk.new' _ Y 47 _ (by simp)
  have hbe : Below w.heap.size w W := by rw [hW]; exact ((Below.refl _ _).alloc (Nat.le_refl _) _).alloc (by simp) _
  have h79 : Hid (Calls Try.prog 79 #[.slice p N cap, .slice q N cap'] W fun e w' => e = .returned (.bool true) ∧ Below W.heap.size W w') := sameCmds79 d.cs p q N cap cap' W hN (h.below hbe) (h'.below hbe) hsz
  have r1 : Hid (W.rangeAt w.heap.size 5 (d.tag.map By)) := hB.rangeD 5 _ (by rw [hX]; simp only [Sd.cells, List.drop_succ_cons, List.drop_zero, List.take_length])
  have r2 : Hid (W.rangeAt (w.heap.size + 1) 5 (d.tag.map By)) := hC.rangeD 5 _ (by rw [hY]; simp only [Sd.cells, List.drop_succ_cons, List.drop_zero, List.take_length])
  have heq : ∀ W, (binOp .eql 36 (.agg (d.tag.map By).toArray) (.agg (d.tag.map By).toArray)).run Try.prog W = .ok (.bool true) W := fun W => by rw [run_eql_D W d.tag d.tag ht ht]; simp
  have hl32 : Hid ((Try.prog.info? 36).map (·.size) = some (d.tag.map By).length) := by show _ = _; rw [List.length_map, ht]; kernel_rfl
  have c0 := hB.cell 0
  have c1 := hB.cell 1
  have c2 := hB.cell 2
  have c3 := hB.cell 3
  have c4 := hB.cell 4
  have f0 := hC.cell 0
  have f1 := hC.cell 1
  have f2 := hC.cell 2
  have f3 := hC.cell 3
  have f4 := hC.cell 4
  rw [show X[0]? = some (.int .u64 (d.m : Int)) by rw [hX]; rfl] at c0
  rw [show X[1]? = some (.int .i64 d.pl) by rw [hX]; rfl] at c1
  rw [show X[2]? = some (.int .i64 d.tn) by rw [hX]; rfl] at c2
  rw [show X[3]? = some (.bool d.em) by rw [hX]; rfl] at c3
  rw [show X[4]? = some (.slice p N cap) by rw [hX]; rfl] at c4
  rw [show Y[0]? = some (.int .u64 (d.m : Int)) by rw [hY]; rfl] at f0
  rw [show Y[1]? = some (.int .i64 d.pl) by rw [hY]; rfl] at f1
  rw [show Y[2]? = some (.int .i64 d.tn) by rw [hY]; rfl] at f2
  rw [show Y[3]? = some (.bool d.em) by rw [hY]; rfl] at f3
  rw [show Y[4]? = some (.slice q N cap') by rw [hY]; rfl] at f4
  generalize d.tag.map By = T at *
  have HBE := hid hbe
  have HW := hid (fun (_ : Nat) => hW)
  obtain ⟨m, pl, tn, em, cs, tag⟩ := d
  simp only at c0 c1 c2 c3 f0 f1 f2 f3
  clear h h' hN hB hC hbe hX hY hW ht
  go_enter Try.func40, Try.ntmps40
  go_upto_region 1 with fail
  rw [← HW.out 0]
  go_wp2_with (first
    | ((with_reducible refine wpL_loadG 36 w.heap.size 5 T _ ?_ ?_ r1.out Try.underlying36 ?_ hl32.out ?_); (go_simp); (rfl); (rfl); (simp only [Act.put, List.setIfInBounds_toArray, List.set_cons_zero, List.set_cons_succ]))
    | ((with_reducible refine wpL_loadG 36 (w.heap.size + 1) 5 T _ ?_ ?_ r2.out Try.underlying36 ?_ hl32.out ?_); (go_simp); (rfl); (rfl); (simp only [Act.put, List.setIfInBounds_toArray, List.set_cons_zero, List.set_cons_succ]))
    | (go_at_call 79; refine Calls.mono h79.out ?_; rintro e w3 ⟨rfl, hb3⟩))
  go_ret
  exact ⟨rfl, HBE.out.trans (hb3.mono HBE.out.size)⟩
end Go.Proofs.Ytpiflgbcbhnmpaa
