/- PROVED: for every block and every result, formed or not, the law CodecWrites answers true and leaves its arguments as they were: sealed commands, blocks and results have the reference's bytes, or are refused as it refuses them. No conditions. -/
import Derived.Test.YtpiflgbcbhnmpaaRowKit
import Derived.Test.YtpiflgbcbhnmpaaOpen
import Derived.Test.YtpiflgbcbhnmpaaWritesWalk
import Derived.HandedShaped
namespace Go.Proofs.Ytpiflgbcbhnmpaa
open Go.ChangeShapes Go.WideShapes Go.ChangeAt Go.RowKit
theorem okWide_agg {P : Program} {w : World} {r : Reach} {base : Nat} {t : TypeId} {v : Value} {fs : Array Field} (ht : P.underlying t = some (.struct fs)) (h : Value.okWide P w r base t v) : ∃ cs : Array Value, v = .agg cs := by
  simp only [Value.okWide, ht] at h
  obtain ⟨cs, h1, _⟩ := h
  exact ⟨cs, h1⟩
section
variable {H : Type} {enc : TypeId × Value → H} {W : World} {fuel : Nat} {cs : List Value} {x : DataW H × List MemPlace}
theorem tr_res2 (h : Tr enc W fuel 41 cs = some x) : ∃ r : Rs, cs = r.cells ∧ RsRaw r ∧ r.wn ≤ 9223372036854775807 ∧ -9223372036854775808 ≤ r.wn := by
  obtain ⟨r, hr, hraw⟩ := tr_res h
  refine ⟨r, hr, hraw, ?_⟩
  obtain ⟨hl, n, hf⟩ := tr_fields Try.underlying41 h
  obtain ⟨y2, h2, lh2⟩ := hf 2 _ 3 2 1 rfl rfl rfl cells3
  obtain ⟨a2, e2, w2⟩ := tr_int Try.underlying3 h2
  have hb := bounds_i64 w2
  rw [hr] at e2
  have e3 : r.cells[2]? = some (.int .i64 r.wn) := rfl
  rw [e3] at e2
  simp at e2
  rw [e2]
  omega
end
set_option maxRecDepth 100000 in
theorem writes_lifted (os : Os) (started : os.Started) (H : Type) (enc : TypeId × Value → H) :
    ReturnsInHanded {} Try.checked os 4 .any (Rows.codecWritesSpec.pre6 enc Try.prog Try.f4 Rows.codecWritesRow.domain false) (Rows.codecWritesSpec.post enc Try.prog Try.f4 false true false false) := by
  refine returnsInHanded_of_change_shaped (C := Try.checked) own started (by kernel_rfl) Try.func4
    (ChangeSpec.witness6 (enc := enc) (C := Try.checked) false ⟨#[], #[.agg z39.toArray, .agg (rsC 0 0 0 (zB 32) (zB 32)).toArray], []⟩ 8 (by kernel_rfl) (by kernel_rfl) (by kernel_rfl) (by kernel_rfl)) ?_
  intro W base args ds gs before hval0 hW hcnd hwt _ _
  have hval : ∀ (j : Nat) t v, Try.f4.params[j]? = some t → args[j]? = some v → Value.okWide Try.prog W .any base t v := hval0
  have hW' := hW
  obtain ⟨p, q, hA0, hV, rfl, hfz, hnd⟩ := hW
  have hA : DataW.TrodAll enc Try.prog W 0 (fun _ => true) true Try.f4.params.toList args.toList ds p := hA0
  have hwt2 : (DataW.weightsEach Try.prog (Try.f4.params.toList ++ Rows.codecWritesSpec.plain.varTypes Try.prog) (ds ++ gs)).all (· ≤ reachBytes) = true := hwt
  rw [Try.params4] at hA hval hwt2
  obtain ⟨v0, vs0, d0, ds0, p0, q0, hargs, rfl, rfl, h0, r0⟩ := trodAll_cons hA
  obtain ⟨v1, vs1, d1, ds1, p1, q1, rfl, rfl, rfl, h1, r1⟩ := trodAll_cons r0
  obtain ⟨rfl, rfl, rfl⟩ := trodAll_nil r1
  obtain rfl : args = #[v0, v1] := by cases args; simp_all
  obtain ⟨rfl, rfl⟩ := trodVars_none hV
  have hL : Light d0 39 := fun n hn => by
    have := List.all_eq_true.1 hwt2 n (by
      show n ∈ DataW.weightsEach Try.prog _ _
      simp only [List.cons_append, DataW.weightsEach]
      exact List.mem_append_left _ hn)
    simpa using this
  have k0 := h0
  have lt0 : ∀ x ∈ p0, x.block < W.heap.size := by obtain ⟨m, hm⟩ := k0; exact DataW.trod_lt m _ _ _ hm
  have k1 := h1
  have lt1 : ∀ x ∈ p1, x.block < W.heap.size := by obtain ⟨m, hm⟩ := k1; exact DataW.trod_lt m _ _ _ hm
  obtain ⟨c0, rfl⟩ := okWide_agg Try.underlying39 (hval 0 39 v0 rfl rfl)
  obtain ⟨c1, rfl⟩ := okWide_agg Try.underlying41 (hval 1 41 v1 rfl rfl)
  obtain ⟨k, qq, c, hv, hraw, hlo, hlen⟩ : ∃ (k : Bk) (q : Option Addr) (c : Nat), c0.toList = k.cells (.slice q k.ds.length c) ∧ BkRaw k ∧ SdsLo W W.heap.size (.slice q k.ds.length c) k.ds ∧ k.ds.length ≤ 1000000000000000 := by
    obtain ⟨fuel, hf⟩ := h0
    exact tr_block (x := (d0, p0)) (by simpa [Value.cells] using hf) hL
  obtain ⟨r, hv2, hrr, hwn⟩ : ∃ r : Rs, c1.toList = r.cells ∧ RsRaw r ∧ r.wn ≤ 9223372036854775807 ∧ -9223372036854775808 ≤ r.wn := by
    obtain ⟨fuel, hf⟩ := h1
    exact tr_res2 (x := (d1, p1)) (by simpa [Value.cells] using hf)
  clear hA0 hval0
  have e0 : c0 = (k.cells (.slice qq k.ds.length c)).toArray := by rw [← hv]
  have e1 : c1 = r.cells.toArray := by rw [← hv2]
  subst e0 e1
  have walk : Calls Try.prog 4 #[.agg (k.cells (.slice qq k.ds.length c)).toArray, .agg r.cells.toArray] W fun e w' => e = .returned (.bool true) ∧ Below W.heap.size W w' := writes_walk k hraw qq k.ds.length c rfl r hrr hwn W hlo
  refine walk.mono fun e W' ⟨he, bel⟩ => ?_
  subst he
  exact ⟨_, rfl, _, _, _, [], _, [], hW', trodAll_mk1 (shut_bool Try.underlying4 _), (trodAll_cons_mk (Below.trod laidOut (by kernel_rfl) (of_decide_eq_true (by kernel_rfl)) k0 bel lt0) (trodAll_cons_mk (Below.trod laidOut (by kernel_rfl) (of_decide_eq_true (by kernel_rfl)) k1 bel lt1) trodAll_mk0)), rfl, bel.frame _, fun h => by cases h⟩
theorem writes_holds : Rows.CodecWritesSaid :=
  OpenClaim.holds_of_wide 4 Try.f4 rfl rfl rfl rfl rfl rfl rfl ⟨rfl, rfl, rfl, rfl, rfl⟩ rfl rfl rfl rfl rfl (by kernel_rfl) Try.func4 (by kernel_rfl)
    (of_decide_eq_true (by kernel_rfl)) (by unfold Func.isWrapper; first | (rw [if_pos (by decide +kernel)]; kernel_rfl) | (rw [if_neg (by decide +kernel)]; exact ⟨rfl, rfl⟩))
    (fun os started H enc _ => writes_lifted os started H enc)
#print axioms writes_holds
end Go.Proofs.Ytpiflgbcbhnmpaa
